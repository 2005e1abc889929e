package walk_test

import (
	"math"
	"slices"
	"sync"
	"testing"

	"corrie/api"
	"corrie/look"
	"corrie/walk"
	"corrie/world"
)

// plain foretells one step, by the numbers of cells alone: how many steps of the world it is, and which cell, if any, has another word then.
type plain struct {
	w     *world.World
	nodes int
	steps int
	laid  bool
	at    int
	word  uint64
}

func newPlain(w *world.World) *plain {
	return &plain{w: w, nodes: 1 + w.C.Buckets + 2*w.C.Threads*w.C.Calls}
}

// load, and swap, are of the n-th of many things, whose cells are from first on.
func (p *plain) load(first, many, n int) uint64 {
	if n < 0 || n >= many {
		return 0
	}
	p.steps++
	return p.w.Cells.Peek(first + n)
}

func (p *plain) swap(first, many, n int, old, word uint64) bool {
	if n < 0 || n >= many {
		return false
	}
	p.steps++
	p.at, p.word = first+n, word
	p.laid = p.w.Cells.Peek(p.at) == old
	return p.laid
}

func (p *plain) next(node int) uint64 {
	return p.load(0, p.nodes, node)
}

func (p *plain) link(node int, old, word uint64) bool {
	return p.swap(0, p.nodes, node, old, word)
}

func (p *plain) op(op int) uint64 {
	return p.load(p.nodes, p.w.C.Threads*p.w.C.Calls, op)
}

func (p *plain) turn(op int, word uint64) {
	p.swap(p.nodes, p.w.C.Threads*p.w.C.Calls, op, pending, word)
}

// reference is one that isn't marked, of a node that there may be one of.
func reference(node int) uint64 {
	if node < 0 || node > 1<<31-1 {
		return 0
	}
	return uint64(node) * 2
}

func (p *plain) arrive(x walk.Walk, node uint64) walk.Walk {
	x.Curr = int(node)
	if x.Curr == 0 || p.w.Book.Key(x.Curr) > x.Key {
		x.Done = true
	} else {
		x.Phase = 1
	}
	return x
}

func (p *plain) advance(x walk.Walk) walk.Walk {
	x.Pred = x.Curr
	return p.arrive(x, x.Next/2)
}

// step goes by the table, line by line.
func (p *plain) step(x walk.Walk) walk.Walk {
	if x.Done {
		return x
	}
	switch x.Phase {
	case 0:
		x.Pred, x.Seen = p.w.Head(x.Key), -1
		return p.arrive(x, p.next(x.Pred)/2)
	case 1:
		x.Next = p.next(x.Curr)
		x.Phase = 3 - int(x.Next%2)
	case 2:
		if p.link(x.Pred, reference(x.Curr), reference(int(x.Next/2))) {
			return p.arrive(x, x.Next/2)
		}
		x.Phase = 0
	case 3:
		return p.judge(x)
	case 4:
		p.link(x.Curr, x.Next, x.Next|1)
		x.Phase = 1
	case 5:
		if p.op(x.Seen) == in {
			x.Phase = 7
		} else {
			x.Seen, x.Phase = -1, 6
		}
	case 6, 7:
		p.turn(p.w.Book.Carried(x.Curr), uint64(x.Phase-5))
		x.Phase = 3
	default:
		x.Done = true
	}
	return x
}

func (p *plain) judge(x walk.Walk) walk.Walk {
	op := p.w.Book.Carried(x.Curr)
	s := p.op(op)
	if s >= failed {
		x.Phase = 4
		return x
	}
	if p.w.Book.Key(x.Curr) != x.Key {
		return p.advance(x)
	}
	if x.Mode == walk.Seek {
		x.Done, x.Stop = true, true
		if s == in {
			x.Found = op
		}
		return x
	}
	if x.Mode != walk.Decide {
		return p.advance(x)
	}
	if s == in && x.Seen != op {
		x.Seen = op
		return p.advance(x)
	}
	x.Phase = 4
	if s == pending {
		x.Phase = 6
		if x.Seen != -1 {
			x.Phase = 5
		}
	}
	return x
}

// stepBoth holds a step against what the plain model foretells of it, and tells which one that was.
func stepBoth(t *testing.T, w *world.World, x walk.Walk) (walk.Walk, *plain) {
	t.Helper()
	p := newPlain(w)
	want, steps, all := p.step(x), w.Cells.Steps(), peekAll(w)
	if p.laid {
		all[p.at] = p.word
	}
	got := walk.Step(w, x)
	if steps = w.Cells.Steps() - steps; got != want || steps != p.steps || steps > 1 || !slices.Equal(peekAll(w), all) {
		t.Fatalf("of %+v the step comes to %+v, by %d steps, not to %+v, by %d", x, got, steps, want, p.steps)
	}
	return got, p
}

// picks are a rule that doesn't change by which numbers below bounds are told, one after the other.
func picks() func(bound int) int {
	n := uint64(1)
	return func(bound int) int {
		n = n*6364136223846793005 + 1442695040888963407
		return int(n>>33) % bound
	}
}

// P10.2, P10.3: of walks whose fields are whatever they are, in worlds where references, words and calls are, each step is as the plain model says.
func TestWhateverFields(t *testing.T) {
	pick := picks()
	keys := []uint64{0, 1, 2, 3, math.MaxUint64}
	references := []uint64{1, 1 << 32, 1 << 33, 1<<63 + 4, math.MaxUint64 - 1, math.MaxUint64}
	for n := range 200000 {
		w := fresh(t, api.Conf{Threads: 1, Buckets: 2, Inserts: 4, Calls: 4})
		for range 4 {
			op, _ := w.Book.Begin(0, api.Call{Kind: 1 + max(0, pick(8)-4), Key: keys[pick(5)]})
			w.Turn(op, 0, uint64(pick(4)))
		}
		for range 8 {
			w.Book.Make(0, pick(5))
		}
		for node := range 11 {
			w.Set(node, uint64(pick(24)))
		}
		w.Set(pick(11), references[pick(len(references))])
		x := walk.Walk{Key: keys[pick(5)], Mode: pick(5), Phase: pick(9), Pred: pick(11), Curr: pick(11), Next: uint64(pick(24)), Seen: pick(5) - 1, Found: pick(5) - 1}
		switch n % 8 {
		case 0:
			x.Pred = some[pick(len(some))]
		case 1:
			x.Curr = some[pick(len(some))]
		case 2:
			x.Next = references[pick(len(references))]
		case 3:
			x.Seen = some[pick(len(some))]
		case 4:
			x.Stop, x.Done = true, pick(2) == 1
		case 5:
			w.Set(x.Pred, reference(x.Curr))
		case 6:
			x.Next = w.Next(x.Curr)
		}
		for range 4 {
			x, _ = stepBoth(t, w, x)
		}
	}
}

// carriesOver tells whether a bucket has a node, of a key up to that one, whose operation is over.
func carriesOver(w *world.World, bucket int, key uint64) bool {
	p := newPlain(w)
	for _, node := range look.Chain(w, bucket) {
		if w.Book.Key(node) <= key && p.op(w.Book.Carried(node)) >= failed {
			return true
		}
	}
	return false
}

// checkEnd goes on to the end, step by step, where nobody disturbs, and holds the world that was sound against what it is to be then.
func checkEnd(t *testing.T, w *world.World, x walk.Walk) {
	t.Helper()
	pairs := look.Pairs(w)
	bound := 1 + 12*len(look.Chain(w, w.Head(x.Key)-1))
	for calls := 0; !x.Done; calls++ {
		if calls == bound {
			t.Fatalf("%d calls are not enough: %+v", calls, x)
		}
		var p *plain
		if x, p = stepBoth(t, w, x); p.laid && p.at >= p.nodes && p.word == in {
			call, _ := w.Book.Call(p.at - p.nodes)
			pairs = append(pairs, api.Pair{Key: call.Key, Val: call.Val})
		}
		check(t, "whether it is sound", look.Sound(w), true, x)
	}
	slices.SortFunc(pairs, func(a, b api.Pair) int {
		if a.Key < b.Key {
			return -1
		}
		return 1
	})
	if got := look.Pairs(w); !slices.Equal(got, pairs) {
		t.Errorf("Pairs is %v, not %v", got, pairs)
	}
	checkPlaces(t, w, x)
}

// checkPlaces holds where a walk ended against the world that it left.
func checkPlaces(t *testing.T, w *world.World, x walk.Walk) {
	t.Helper()
	there := slices.ContainsFunc(look.Pairs(w), func(p api.Pair) bool { return p.Key == x.Key })
	check(t, "whether it found one", x.Found != -1, there && x.Mode == walk.Seek, x)
	if x.Stop {
		check(t, "the key", w.Book.Key(x.Curr), x.Key, x)
		check(t, "the mode", x.Mode, walk.Seek, x)
		return
	}
	check(t, "whether there is one that is over", carriesOver(w, w.Head(x.Key)-1, x.Key), false, x)
	check(t, "the reference", w.Next(x.Pred), uint64(2*x.Curr), x)
	if x.Pred != w.Head(x.Key) {
		check(t, "whether the key ahead is above", w.Book.Key(x.Pred) > x.Key, false, x)
	}
	if x.Curr != 0 {
		check(t, "whether the key is above", w.Book.Key(x.Curr) > x.Key, true, x)
	}
	if x.Mode == walk.Decide {
		checkDecided(t, w, x)
	}
}

// checkDecided asks that of a key, as of any other one in a sound world, one is in at most, and of that key none is pending.
func checkDecided(t *testing.T, w *world.World, x walk.Walk) {
	t.Helper()
	var left []int
	for _, node := range look.Chain(w, w.Head(x.Key)-1) {
		if w.Book.Key(node) == x.Key {
			left = append(left, w.Book.Carried(node))
		}
	}
	if len(left) > 1 || len(left) == 1 && (left[0] != x.Seen || newPlain(w).op(left[0]) != in) || len(left) == 0 && x.Seen != -1 {
		t.Errorf("of the key %d there are left %v: %+v", x.Key, left, x)
	}
}

// lists calls do with each list of so many numbers below most.
func lists(many, most int, do func(list []int)) {
	list := make([]int, many)
	for {
		do(list)
		at := 0
		for at < many && list[at] == most-1 {
			list[at] = 0
			at++
		}
		if at == many {
			return
		}
		list[at]++
	}
}

// shortWorld has inserts of the keys 2, 2 and 5, of these words, and nodes that carry them: twice the operation, and 1 more, if the node is marked.
func shortWorld(t *testing.T, words, nodes []int) *world.World {
	t.Helper()
	w := fresh(t, one)
	var ops [3]int
	for n, key := range []uint64{2, 2, 5} {
		ops[n] = insert(t, w, key, uint64(words[n]))
	}
	var laid []int
	for _, n := range nodes {
		node := carry(t, w, ops[n/2])
		if n%2 == 1 {
			node = -node
		}
		laid = append(laid, node)
	}
	chain(w, 1, laid...)
	return w
}

// P10.4: in all sound worlds of up to four nodes, each marked or not, of three inserts, two of which have one key, with all words that differ, all walks end as they are to.
func TestAllShortChains(t *testing.T) {
	walks := 0
	lists(3, 4, func(words []int) {
		for many := range 5 {
			keys := []uint64{0, 2, 3, 5, 6}
			if many == 4 {
				keys = []uint64{2, 5}
			}
			lists(many, 6, func(nodes []int) {
				if !look.Sound(shortWorld(t, words, nodes)) {
					return
				}
				for mode := 1; mode <= 3; mode++ {
					for _, key := range keys {
						walks++
						checkEnd(t, shortWorld(t, words, nodes), walk.New(key, mode))
						if t.Failed() {
							t.Fatalf("words %v, nodes %v, key %d, mode %d", words, nodes, key, mode)
						}
					}
				}
			})
		}
	})
	if walks < 20000 {
		t.Errorf("%d walks", walks)
	}
}

// longWorld is a sound world of two buckets, with nodes of several keys: ones that are over, marked or not, then one that is in, maybe, and pending ones, each with second nodes here and there.
func longWorld(t *testing.T, pick func(bound int) int) *world.World {
	t.Helper()
	w := fresh(t, api.Conf{Threads: 1, Buckets: 2, Inserts: 128, Calls: 128})
	var nodes [2][]int
	add := func(key, word uint64) {
		op := insert(t, w, key, word)
		sign := 1
		for n := range 1 + pick(3)/2 {
			if word >= failed || n > 0 {
				sign = 1 - 2*pick(2)
			}
			nodes[w.Head(key)-1] = append(nodes[w.Head(key)-1], sign*carry(t, w, op))
		}
	}
	for key := range uint64(10) {
		for range pick(3) {
			add(key, uint64(failed+pick(3)))
		}
		if pick(2) == 0 {
			add(key, in)
		}
		for range pick(4) {
			add(key, []uint64{pending, pending, failed}[pick(3)])
		}
	}
	chain(w, 1, nodes[0]...)
	chain(w, 2, nodes[1]...)
	return w
}

// P10.4: one walk after the other, in long chains.
func TestLongChains(t *testing.T) {
	pick := picks()
	for range 200 {
		w := longWorld(t, pick)
		check(t, "whether it is sound", look.Sound(w), true)
		for range 10 {
			checkEnd(t, w, walk.New(uint64(pick(11)), 1+pick(3)))
		}
		if t.Failed() {
			t.FailNow()
		}
	}
}

// P10.2, P10.4: several walks that go on as picks say, while some inserts are taken out: each step is as foretold, the world is sound all the time, and no key's second one is let in. In the end a walk that nobody disturbs finds all as it is to be.
func TestWalksThatDisturbEachOther(t *testing.T) {
	pick := picks()
	for range 300 {
		w := longWorld(t, pick)
		var walks [4]walk.Walk
		for n := range walks {
			walks[n] = walk.New(uint64(pick(4)), 1+pick(3))
		}
		for left := 4000; left > 0 && slices.ContainsFunc(walks[:], func(x walk.Walk) bool { return !x.Done }); left-- {
			n := pick(4)
			walks[n], _ = stepBoth(t, w, walks[n])
			if pick(20) == 0 {
				w.Turn(pick(w.Book.Calls(0)), in, uint64(out+pick(100)))
			}
			check(t, "whether it is sound", look.Sound(w), true)
			check(t, "whether it ends", left > 1, true)
		}
		for key := range uint64(11) {
			checkEnd(t, w, walk.New(key, walk.Decide))
		}
		if t.Failed() {
			t.FailNow()
		}
	}
}

// P1, P10.4: walks of threads at once end, and leave a sound world, where each key has the first of those that were pending.
func TestThreads(t *testing.T) {
	const keys, each = 20, 6
	w := fresh(t, api.Conf{Threads: 1, Buckets: 2, Inserts: 256, Calls: 256})
	var nodes [2][]int
	for key := range uint64(keys) {
		for range each {
			op := insert(t, w, key, pending)
			nodes[w.Head(key)-1] = append(nodes[w.Head(key)-1], carry(t, w, op), carry(t, w, op))
		}
	}
	chain(w, 1, nodes[0]...)
	chain(w, 2, nodes[1]...)
	var joined sync.WaitGroup
	for thread := range 8 {
		joined.Go(func() {
			for n := range keys {
				x, _, _ := run(w, walk.New(uint64((n+3*thread)%keys), walk.Decide))
				check(t, "whether it is done", x.Done, true, thread, n)
			}
		})
	}
	joined.Wait()
	check(t, "whether it is sound", look.Sound(w), true)
	check(t, "how many nodes", len(look.Chain(w, 0))+len(look.Chain(w, 1)), keys)
	for key := range keys {
		check(t, "the word of the first", w.Word(key*each), in, key)
		for n := 1; n < each; n++ {
			check(t, "the word of another one", w.Word(key*each+n), failed, key, n)
		}
	}
}
