package place_test

import (
	"cmp"
	"math"
	"slices"
	"sync"
	"testing"

	"corrie/api"
	"corrie/look"
	"corrie/place"
	"corrie/walk"
	"corrie/world"
)

// twins are two worlds that were put together alike: steps are done in one, and foretold in the other one, by the numbers of cells alone.
type twins struct{ real, plain *world.World }

func newTwins(t *testing.T, c api.Conf) twins {
	t.Helper()
	return twins{fresh(t, c), fresh(t, c)}
}

// both does something in both worlds, and tells what the first of them tells.
func both[T any](p twins, do func(w *world.World) T) T {
	do(p.plain)
	return do(p.real)
}

func nodesOf(c api.Conf) int {
	return 1 + c.Buckets + 2*opsOf(c)
}

func opsOf(c api.Conf) int {
	return c.Threads * c.Calls
}

// cell is the number of the n-th of many things, whose cells are from first on, or of none.
func cell(first, many, n int) int {
	if n < 0 || n >= many {
		return -1
	}
	return first + n
}

// reference is one that isn't marked, of a node that there may be one of.
func reference(node int) uint64 {
	if node < 0 || node > 1<<31-1 {
		return 0
	}
	return uint64(node) * 2
}

// foretell goes by the table, line by line.
func foretell(w *world.World, x place.Put) place.Put {
	if x.Done {
		return x
	}
	nodes := nodesOf(w.C)
	switch x.Phase {
	case 0, 2:
		call, _ := w.Book.Call(x.Op)
		return told(x, call.Key, w.Cells.Load(cell(nodes, opsOf(w.C), x.Op)))
	case 1:
		if x.Walk = walk.Step(w, x.Walk); x.Walk.Done {
			x.Phase = 2
		}
	case 3:
		if x.Node == 0 {
			node, e := w.Book.Make(x.Thread, x.Op)
			if e != api.OK {
				x.Done = true
				return x
			}
			x.Node = node
		}
		w.Cells.Store(cell(0, nodes, x.Node), reference(x.Walk.Curr))
		x.Phase = 4
	case 4:
		done := w.Cells.Swap(cell(0, nodes, x.Walk.Pred), reference(x.Walk.Curr), reference(x.Node))
		x.Linked = x.Linked || done
		x.Phase = 0
	case 5:
		x.Walk = walk.Step(w, x.Walk)
		x.Done = x.Walk.Done
	default:
		x.Done = true
	}
	return x
}

func told(x place.Put, key, s uint64) place.Put {
	anew := walk.Walk{Key: key, Mode: 1, Seen: -1, Found: -1}
	x.Won = s == 1 || s > 2
	if s == 0 {
		if x.Phase == 2 {
			x.Phase = 3
		} else {
			x.Walk, x.Phase = anew, 1
		}
	} else if x.Linked {
		x.Walk, x.Phase = anew, 5
	} else {
		x.Done = true
	}
	return x
}

// step holds a step against what is foretold of it, in all that there is of both worlds.
func (p twins) step(t *testing.T, x place.Put) place.Put {
	before := p.real.Cells.Steps()
	want, got := foretell(p.plain, x), place.Step(p.real, x)
	if got != want {
		t.Fatalf("of %+v the step comes to %+v, not to %+v", x, got, want)
	}
	if steps := p.real.Cells.Steps(); steps != p.plain.Cells.Steps() || steps > before+1 {
		t.Fatalf("of %+v there are %d steps, and were %d: not %d", x, steps, before, p.plain.Cells.Steps())
	}
	for at := range p.real.Cells.Len() {
		if p.real.Cells.Peek(at) != p.plain.Cells.Peek(at) {
			t.Fatalf("of %+v the cells are %v, not %v", x, peekAll(p.real), peekAll(p.plain))
		}
	}
	for thread := range p.real.C.Threads {
		if p.real.Book.Made(thread) != p.plain.Book.Made(thread) || p.real.Book.Calls(thread) != p.plain.Book.Calls(thread) {
			t.Fatalf("of %+v thread %d has made %d nodes, not %d", x, thread, p.real.Book.Made(thread), p.plain.Book.Made(thread))
		}
	}
	if p.real.Book.Carried(got.Node) != p.plain.Book.Carried(got.Node) {
		t.Fatalf("of %+v the node carries %d, not %d", x, p.real.Book.Carried(got.Node), p.plain.Book.Carried(got.Node))
	}
	return got
}

// insert is one in both worlds.
func (p twins) insert(t *testing.T, thread int, key, word uint64) int {
	t.Helper()
	return both(p, func(w *world.World) int { return insert(t, w, thread, key, word) })
}

// turn lays a word in place of another one, in both worlds.
func (p twins) turn(op int, old, word uint64) {
	both(p, func(w *world.World) bool { return w.Turn(op, old, word) })
}

// picks are a rule that doesn't change by which numbers below bounds are told, one after the other.
func picks() func(bound int) int {
	n := uint64(1)
	return func(bound int) int {
		n = n*6364136223846793005 + 1442695040888963407
		return int(n>>33) % bound
	}
}

// P11.2: of inserts whose fields are whatever they are, in worlds where references, words and calls are, each step is as foretold.
func TestWhateverFields(t *testing.T) {
	pick := picks()
	keys := []uint64{0, 1, 2, 3, math.MaxUint64}
	references := []uint64{1, 1 << 32, 1 << 33, 1<<63 + 4, math.MaxUint64 - 1, math.MaxUint64}
	c := api.Conf{Threads: 2, Buckets: 2, Inserts: 4, Calls: 2}
	for n := range 60000 {
		p := newTwins(t, c)
		for range 1 + pick(4) {
			thread, call, word := pick(2), api.Call{Kind: 1 + max(0, pick(8)-4), Key: keys[pick(5)]}, uint64(pick(5))
			both(p, func(w *world.World) bool {
				op, _ := w.Book.Begin(thread, call)
				return w.Turn(op, 0, word)
			})
		}
		for range pick(9) {
			thread, op := pick(2), pick(4)
			both(p, func(w *world.World) api.Errno { _, e := w.Book.Make(thread, op); return e })
		}
		for node := range 11 {
			lay := uint64(pick(24))
			if pick(11) == 0 {
				lay = references[pick(len(references))]
			}
			both(p, func(w *world.World) int { w.Set(node, lay); return 0 })
		}
		x := place.Put{Op: pick(5), Thread: pick(3), Phase: pick(7), Linked: pick(2) == 1, Won: pick(2) == 1, Done: pick(32) == 0}
		x.Walk = walk.Walk{Key: keys[pick(5)], Mode: pick(5), Phase: pick(9), Pred: pick(11), Curr: pick(11), Next: uint64(pick(24)), Seen: pick(5) - 1, Found: pick(5) - 1, Stop: pick(2) == 1, Done: pick(4) == 0}
		if pick(2) == 1 {
			x.Node = pick(12)
		}
		switch n % 10 {
		case 0:
			x.Op = some[pick(len(some))]
		case 1:
			x.Thread = some[pick(len(some))]
		case 2:
			x.Node = some[pick(len(some))]
		case 3:
			x.Walk.Pred = some[pick(len(some))]
		case 4:
			x.Walk.Curr = some[pick(len(some))]
		case 5:
			x.Phase = phases[pick(len(phases))]
		case 6, 7:
			x.Phase = 4
			both(p, func(w *world.World) int { w.Set(x.Walk.Pred, reference(x.Walk.Curr)); return 0 })
		}
		for range 4 {
			x = p.step(t, x)
		}
	}
}

// found is what one comes to in a key's bucket: the operations that are in, and the first that is pending (-1: none).
type found struct {
	in      []int
	pending int
}

func find(w *world.World, key uint64) found {
	f := found{pending: -1}
	for _, node := range look.Chain(w, w.Head(key)-1) {
		op := w.Book.Carried(node)
		if w.Book.Key(node) != key {
			continue
		}
		switch w.Cells.Peek(nodesOf(w.C) + op) {
		case in:
			f.in = append(f.in, op)
		case pending:
			if f.pending == -1 {
				f.pending = op
			}
		}
	}
	return f
}

// winner is who is to be in in the end, of the key of an insert that is pending: whoever is in, or else who stands first, or else this one.
func winner(w *world.World, op int, key uint64) int {
	f := find(w, key)
	if len(f.in) > 0 {
		return f.in[0]
	}
	if f.pending != -1 {
		return f.pending
	}
	return op
}

// checkEnd goes on to the end, step by step, where nobody disturbs, and holds the world that was sound against what it is to be then.
func checkEnd(t *testing.T, p twins, op, thread int) {
	t.Helper()
	w := p.real
	call, _ := w.Book.Call(op)
	word, pairs, chain := w.Cells.Peek(nodesOf(w.C)+op), look.Pairs(w), look.Chain(w, w.Head(call.Key)-1)
	first := winner(w, op, call.Key)
	x := place.New(op, thread)
	for calls := 0; !x.Done; calls++ {
		if calls == 30+24*len(chain) {
			t.Fatalf("%d calls are not enough: %+v", calls, x)
		}
		x = p.step(t, x)
		check(t, "whether it is sound", look.Sound(w), true)
	}
	if word != pending {
		check(t, "the insert", x, place.Put{Op: op, Thread: thread, Done: true, Won: word != failed})
		checkPairs(t, w, pairs...)
		return
	}
	word = failed
	if first == op {
		word = in
	}
	check(t, "the word", w.Cells.Peek(nodesOf(w.C)+op), word, x)
	check(t, "whether it won", x.Won, first == op, x)
	if f := find(w, call.Key); !slices.Equal(f.in, []int{first}) || f.pending != -1 {
		t.Errorf("of the key there are %+v, not %d: %+v", f, first, x)
	}
	checkPairs(t, w, with(pairs, w, first)...)
	checkClean(t, w, call.Key)
}

// with are pairs with that of an insert, if there was none of its key.
func with(pairs []api.Pair, w *world.World, op int) []api.Pair {
	call, _ := w.Book.Call(op)
	if slices.ContainsFunc(pairs, func(p api.Pair) bool { return p.Key == call.Key }) {
		return pairs
	}
	all := append(slices.Clone(pairs), api.Pair{Key: call.Key, Val: call.Val})
	slices.SortFunc(all, func(a, b api.Pair) int { return cmp.Compare(a.Key, b.Key) })
	return all
}

// checkClean asks that nothing up to a key is over, and that one node at most has it.
func checkClean(t *testing.T, w *world.World, key uint64) {
	t.Helper()
	nodes := 0
	for _, node := range look.Chain(w, w.Head(key)-1) {
		if w.Book.Key(node) == key {
			nodes++
		}
		if w.Book.Key(node) <= key && w.Cells.Peek(nodesOf(w.C)+w.Book.Carried(node)) >= failed {
			t.Errorf("node %d is over", node)
		}
	}
	check(t, "how many nodes have the key", nodes, 1, key)
}

// lists calls do with each list of so many numbers below most.
func lists(many, most int, do func(list []int)) {
	list := make([]int, many)
	for {
		do(list)
		at := 0
		for at < many && list[at] == most-1 {
			list[at] = 0
			at++
		}
		if at == many {
			return
		}
		list[at]++
	}
}

// shortTwins have inserts of the keys 2, 2 and 5, of these words, and nodes that carry them: twice the operation, and 1 more, if the node is marked.
func shortTwins(t *testing.T, words, nodes []int) twins {
	t.Helper()
	p := newTwins(t, small)
	for n, key := range []uint64{2, 2, 5} {
		p.insert(t, 0, key, uint64(words[n]))
	}
	both(p, func(w *world.World) int {
		var laid []int
		for _, n := range nodes {
			node := carry(t, w, n/2)
			if n%2 == 1 {
				node = -node
			}
			laid = append(laid, node)
		}
		chain(w, 1, laid...)
		return 0
	})
	return p
}

// P11.3: in all sound worlds of up to three nodes, each marked or not, of three inserts, two of which have one key, with all words that differ, each of those inserts, and another one of any key, ends as it is to.
func TestAllShortChains(t *testing.T) {
	puts := 0
	lists(3, 4, func(words []int) {
		for many := range 4 {
			lists(many, 6, func(nodes []int) {
				if !look.Sound(shortTwins(t, words, nodes).real) {
					return
				}
				for n, key := range []uint64{0, 2, 3, 5, 6, 2, 2, 5} {
					puts++
					p := shortTwins(t, words, nodes)
					op := max(n-5, 0)
					if n < 5 {
						op = p.insert(t, 1, key, pending)
					}
					checkEnd(t, p, op, puts%2)
					if t.Failed() {
						t.Fatalf("words %v, nodes %v, key %d, operation %d", words, nodes, key, op)
					}
				}
			})
		}
	})
	if puts < 15000 {
		t.Errorf("%d inserts", puts)
	}
}

// P11.3: inserts one after the other, by several threads, in several buckets, do what a map does, while some are taken out.
func TestOneAfterTheOther(t *testing.T) {
	pick := picks()
	for range 20 {
		p := newTwins(t, api.Conf{Threads: 3, Buckets: 4, Inserts: 20, Calls: 20})
		there := map[uint64]int{}
		for range 60 {
			thread := pick(3)
			if p.real.Book.Calls(thread) == 20 {
				continue
			}
			key := uint64(pick(10))
			op := p.insert(t, thread, key, pending)
			checkEnd(t, p, op, pick(3))
			if _, held := there[key]; !held {
				there[key] = op
			}
			check(t, "who is in", find(p.real, key).in[0], there[key], key)
			if other := uint64(pick(10)); pick(3) == 0 {
				if first, held := there[other]; held {
					p.turn(first, in, uint64(out+pick(60)))
					delete(there, other)
				}
			}
			check(t, "how many pairs", len(look.Pairs(p.real)), len(there))
			if t.Failed() {
				t.FailNow()
			}
		}
	}
}

// crowd are inserts that several threads do at once: each one is its own thread's, and another one's, too.
func crowd(t *testing.T, p twins, pick func(bound int) int) []place.Put {
	t.Helper()
	var puts []place.Put
	for range 6 {
		own, other := pick(4), pick(4)
		op := p.insert(t, own, uint64(1+pick(3)), pending)
		puts = append(puts, place.New(op, own), place.New(op, other))
		if pick(3) == 0 {
			puts = append(puts, place.New(op, pick(4)))
		}
	}
	return puts
}

// checkCrowd goes on as picks say, to the end of all of them, and takes some out meanwhile, if it is to.
func checkCrowd(t *testing.T, p twins, puts []place.Put, pick func(bound int) int, taking bool) {
	t.Helper()
	w := p.real
	for left := 6000; slices.ContainsFunc(puts, func(x place.Put) bool { return !x.Done }); left-- {
		if left == 0 {
			t.Fatalf("it doesn't end: %+v", puts)
		}
		n := pick(len(puts))
		for range 1 + pick(4) {
			puts[n] = p.step(t, puts[n])
		}
		if taking && pick(15) == 0 {
			p.turn(puts[pick(len(puts))].Op, in, uint64(out+pick(60)))
		}
		check(t, "whether it is sound", look.Sound(w), true)
		pairs := look.Pairs(w)
		check(t, "whether a key has two", len(slices.CompactFunc(pairs, func(a, b api.Pair) bool { return a.Key == b.Key })), len(pairs))
	}
	for _, x := range puts {
		word := w.Cells.Peek(nodesOf(w.C) + x.Op)
		check(t, "whether it is decided", word != pending, true, x)
		check(t, "whether it won", x.Won, word != failed, x)
	}
	for key := uint64(1); key < 4; key++ {
		if f := find(w, key); f.pending != -1 || len(f.in) > 1 {
			t.Errorf("of the key %d there are %+v", key, f)
		}
	}
}

// P11.2, P2, P6: inserts that disturb each other, some of them by several threads: each step is as foretold, the world is sound all the time, all end, and whoever does one tells the same of it. Where none was taken out, of each key one is in at the end, with one node.
func TestInsertsThatDisturbEachOther(t *testing.T) {
	pick := picks()
	for n := range 1000 {
		taking := n%4 > 1
		p := newTwins(t, api.Conf{Threads: 4, Buckets: 1 + n%2, Inserts: 6, Calls: 18})
		puts := crowd(t, p, pick)
		checkCrowd(t, p, puts, pick, taking)
		if !taking {
			checkOneOfEach(t, p.real, puts)
		}
		if t.Failed() {
			t.FailNow()
		}
	}
}

// checkOneOfEach asks that of each key of inserts one is in, and that there is no other node.
func checkOneOfEach(t *testing.T, w *world.World, puts []place.Put) {
	t.Helper()
	keys := map[uint64]bool{}
	for _, x := range puts {
		call, _ := w.Book.Call(x.Op)
		keys[call.Key] = true
		check(t, "how many are in", len(find(w, call.Key).in), 1, call.Key)
	}
	check(t, "how many pairs", len(look.Pairs(w)), len(keys))
	check(t, "how many nodes", len(look.Chain(w, 0))+len(look.Chain(w, 1)), len(keys))
}

// P2, P11.2: of two inserts of one key that overlap one wins, however they do, and so it is of one insert that two threads do.
func TestAllTurnsOfTwo(t *testing.T) {
	for _, same := range []bool{false, true} {
		for late := range 40 {
			for many := range 40 {
				p := newTwins(t, small)
				first := p.insert(t, 0, 4, pending)
				second := first
				if !same {
					second = p.insert(t, 1, 4, pending)
				}
				x, y := place.New(first, 0), place.New(second, 1)
				for range late {
					x = p.step(t, x)
				}
				for range many {
					y = p.step(t, y)
				}
				for range 100 {
					x = p.step(t, x)
				}
				for range 100 {
					y = p.step(t, y)
				}
				check(t, "whether both are done", x.Done && y.Done, true, late, many)
				check(t, "whether the second one won, too", x.Won == y.Won, same, late, many)
				check(t, "whether one won", x.Won || y.Won, true, late, many)
				check(t, "whether it is sound", look.Sound(p.real), true, late, many)
				check(t, "how many nodes", len(look.Chain(p.real, 0)), 1, late, many)
			}
		}
	}
}

// P1, P2, P6: inserts of threads at once, each of which does its own and all others', end; of each key one is in, with one node, and whoever did one tells the same of it.
func TestThreads(t *testing.T) {
	const keys, threads = 20, 8
	w := fresh(t, api.Conf{Threads: threads, Buckets: 2, Inserts: 256, Calls: 256})
	var ops []int
	for thread := range threads {
		for key := range uint64(keys) {
			ops = append(ops, insert(t, w, thread, key, pending))
		}
	}
	var won [threads][]bool
	var joined sync.WaitGroup
	for thread := range threads {
		won[thread] = make([]bool, len(ops))
		joined.Go(func() {
			for n := range ops {
				n = (n + keys*thread) % len(ops)
				x, _ := run(w, place.New(ops[n], thread))
				check(t, "whether it is done", x.Done, true, thread, n)
				won[thread][n] = x.Won
			}
		})
	}
	joined.Wait()
	check(t, "whether it is sound", look.Sound(w), true)
	check(t, "how many pairs", len(look.Pairs(w)), keys)
	check(t, "how many nodes", len(look.Chain(w, 0))+len(look.Chain(w, 1)), keys)
	for n, op := range ops {
		for thread := range threads {
			check(t, "whether it won", won[thread][n], w.Word(op) == in, thread, op)
		}
	}
}
