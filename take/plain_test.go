package take_test

import (
	"fmt"
	"math"
	"slices"
	"sync"
	"testing"

	"corrie/api"
	"corrie/look"
	"corrie/place"
	"corrie/take"
	"corrie/walk"
	"corrie/world"
)

// twins are two worlds that were put together alike: steps are done in one, and foretold in the other one, by the numbers of cells alone.
type twins struct{ real, plain *world.World }

func newTwins(t *testing.T, c api.Conf) twins {
	t.Helper()
	return twins{fresh(t, c), fresh(t, c)}
}

// both does something in both worlds, and tells what the first of them tells.
func both[T any](p twins, do func(w *world.World) T) T {
	do(p.plain)
	return do(p.real)
}

func nodesOf(c api.Conf) int {
	return 1 + c.Buckets + 2*opsOf(c)
}

func opsOf(c api.Conf) int {
	return c.Threads * c.Calls
}

// cell is the number of an operation's, or of none.
func cell(c api.Conf, op int) int {
	if op < 0 || op >= opsOf(c) {
		return -1
	}
	return nodesOf(c) + op
}

// targetOf is the operation that a word of a delete names (-1: none).
func targetOf(w uint64) int {
	if w < target || w-target > 1<<31-1 {
		return -1
	}
	return int(w - target)
}

// outOf is the word of an insert that an operation took out.
func outOf(op int) uint64 {
	if op < 0 || op > 1<<31-1 {
		return 0
	}
	return uint64(op) + out
}

// foretell goes by the table, line by line.
func foretell(w *world.World, x take.Take) take.Take {
	if x.Done {
		return x
	}
	call, _ := w.Book.Call(x.Op)
	own, aim := cell(w.C, x.Op), cell(w.C, targetOf(x.Want))
	switch x.Phase {
	case 0:
		x.Want = w.Cells.Load(own)
		if x.Want == open {
			x.Walk, x.Phase = walk.Walk{Key: call.Key, Mode: 2, Seen: -1, Found: -1}, 1
		} else if x.Want == absent {
			x.Done = true
		} else {
			x.Phase = 3
		}
	case 1:
		x.Walk = walk.Step(w, x.Walk)
		if x.Walk.Done {
			x.Phase, x.Want = 2, wanted(x.Walk.Found)
		}
	case 2:
		w.Cells.Swap(own, open, x.Want)
		x.Phase = 0
	case 3:
		w.Cells.Swap(aim, in, outOf(x.Op))
		x.Phase = 4
	case 4:
		s, by := w.Cells.Load(aim), -1
		if s >= out && s-out <= 1<<31-1 {
			by = int(s - out)
		}
		x.Won = by == x.Op
		if x.Won && x.Own {
			x.Walk, x.Phase = walk.Walk{Key: call.Key, Mode: 3, Seen: -1, Found: -1}, 5
		} else {
			x.Done = true
		}
	case 5:
		x.Walk = walk.Step(w, x.Walk)
		x.Done = x.Walk.Done
	default:
		x.Done = true
	}
	return x
}

func wanted(found int) uint64 {
	if found == -1 {
		return absent
	}
	if found < 0 || found > 1<<31-1 {
		return 0
	}
	return uint64(found) + target
}

// step holds a step against what is foretold of it, in all that there is of both worlds.
func (p twins) step(t *testing.T, x take.Take) take.Take {
	t.Helper()
	before := p.real.Cells.Steps()
	want, got := foretell(p.plain, x), take.Step(p.real, x)
	if got != want {
		t.Fatalf("of %+v the step comes to %+v, not to %+v", x, got, want)
	}
	if steps := p.real.Cells.Steps(); steps != p.plain.Cells.Steps() || steps > before+1 {
		t.Fatalf("of %+v there are %d steps, and were %d: not %d", x, steps, before, p.plain.Cells.Steps())
	}
	for at := range p.real.Cells.Len() {
		if p.real.Cells.Peek(at) != p.plain.Cells.Peek(at) {
			t.Fatalf("of %+v the cells are %v, not %v", x, peekAll(p.real), peekAll(p.plain))
		}
	}
	for thread := range p.real.C.Threads {
		if p.real.Book.Made(thread) != p.plain.Book.Made(thread) || p.real.Book.Calls(thread) != p.plain.Book.Calls(thread) {
			t.Fatalf("of %+v thread %d has made %d nodes, not %d", x, thread, p.real.Book.Made(thread), p.plain.Book.Made(thread))
		}
	}
	return got
}

// insert is one in both worlds, remove a delete.
func (p twins) insert(t *testing.T, thread int, key, word uint64) int {
	t.Helper()
	return both(p, func(w *world.World) int { return insert(t, w, thread, key, word) })
}

func (p twins) remove(t *testing.T, thread int, key, word uint64) int {
	t.Helper()
	return both(p, func(w *world.World) int { return remove(t, w, thread, key, word) })
}

// put is a step of an insert in both worlds.
func (p twins) put(x place.Put) place.Put {
	return both(p, func(w *world.World) place.Put { return place.Step(w, x) })
}

// picks are a rule that doesn't change by which numbers below bounds are told, one after the other.
func picks() func(bound int) int {
	n := uint64(1)
	return func(bound int) int {
		n = n*6364136223846793005 + 1442695040888963407
		return int(n>>33) % bound
	}
}

// lawless are twins whose calls, nodes, words and references are whatever they are.
func lawless(t *testing.T, pick func(bound int) int, keys []uint64) twins {
	t.Helper()
	p := newTwins(t, api.Conf{Threads: 2, Buckets: 2, Inserts: 4, Calls: 2})
	for range 1 + pick(4) {
		thread, call, word := pick(2), api.Call{Kind: 1 + pick(4), Key: keys[pick(len(keys))]}, uint64(pick(8))
		both(p, func(w *world.World) bool {
			op, _ := w.Book.Begin(thread, call)
			return w.Turn(op, 0, word)
		})
	}
	for range pick(9) {
		thread, op := pick(2), pick(4)
		both(p, func(w *world.World) api.Errno { _, e := w.Book.Make(thread, op); return e })
	}
	for node := range 11 {
		lay := uint64(pick(24))
		if pick(11) == 0 {
			lay = []uint64{1, 1 << 32, 1 << 33, 1<<63 + 4, math.MaxUint64 - 1, math.MaxUint64}[pick(6)]
		}
		both(p, func(w *world.World) int { w.Set(node, lay); return 0 })
	}
	return p
}

// P12.2: of deletes whose fields are whatever they are, in worlds where references, words and calls are, each step is as foretold.
func TestWhateverFields(t *testing.T) {
	pick := picks()
	keys := []uint64{0, 1, 2, 3, math.MaxUint64}
	for n := range 60000 {
		p := lawless(t, pick, keys)
		x := take.Take{Op: pick(5), Own: pick(2) == 1, Phase: pick(7), Want: uint64(pick(8)), Won: pick(2) == 1, Done: pick(32) == 0}
		x.Walk = walk.Walk{Key: keys[pick(5)], Mode: pick(5), Phase: pick(9), Pred: pick(11), Curr: pick(11), Next: uint64(pick(24)), Seen: pick(5) - 1, Found: pick(5) - 1, Stop: pick(2) == 1, Done: pick(4) == 0}
		switch n % 8 {
		case 0:
			x.Op = some[pick(len(some))]
		case 1:
			x.Want = words[pick(len(words))]
		case 2:
			x.Walk.Found, x.Phase = some[pick(len(some))], 1
		case 3:
			x.Walk.Pred = some[pick(len(some))]
		case 4:
			x.Walk.Curr = some[pick(len(some))]
		case 5:
			x.Phase = phases[pick(len(phases))]
		case 6:
			x.Phase, x.Want = 3, uint64(target+pick(4))
			op := targetOf(x.Want)
			both(p, func(w *world.World) bool { return w.Turn(op, w.Cells.Peek(cell(w.C, op)), in) })
		}
		for range 6 {
			x = p.step(t, x)
		}
	}
}

// wordOf is an operation's, by no step.
func wordOf(w *world.World, op int) uint64 {
	return w.Cells.Peek(cell(w.C, op))
}

// whoIsIn is the operation of a key that is in, in a world that is sound (-1: none).
func whoIsIn(w *world.World, key uint64) int {
	for _, node := range look.Chain(w, w.Head(key)-1) {
		op := w.Book.Carried(node)
		if w.Book.Key(node) == key && wordOf(w, op) == in {
			return op
		}
	}
	return -1
}

// checkEnd goes on to the end, step by step, where nobody disturbs, and holds the world that was sound against what it is to be then.
func checkEnd(t *testing.T, p twins, op int, own bool) {
	t.Helper()
	w := p.real
	call, _ := w.Book.Call(op)
	there, pairs, nodes := whoIsIn(w, call.Key), look.Pairs(w), look.Chain(w, w.Head(call.Key)-1)
	x := take.New(op, own)
	for calls := 0; !x.Done; calls++ {
		if calls == 10+12*len(nodes) {
			t.Fatalf("%d calls are not enough: %+v", calls, x)
		}
		x = p.step(t, x)
		check(t, "whether it is sound", look.Sound(w), true)
	}
	check(t, "whether it won", x.Won, there != -1, x)
	check(t, "the word", wordOf(w, op), wanted(there), x)
	if there != -1 {
		check(t, "the word of the insert", wordOf(w, there), outOf(op), x)
	}
	checkPairs(t, w, without(pairs, call.Key)...)
	if own && there != -1 {
		checkClean(t, w, call.Key)
	}
}

func without(pairs []api.Pair, key uint64) []api.Pair {
	return slices.DeleteFunc(slices.Clone(pairs), func(p api.Pair) bool { return p.Key == key })
}

// checkClean asks that nothing up to a key is over.
func checkClean(t *testing.T, w *world.World, key uint64) {
	t.Helper()
	for _, node := range look.Chain(w, w.Head(key)-1) {
		if w.Book.Key(node) <= key && wordOf(w, w.Book.Carried(node)) >= failed {
			t.Errorf("node %d is over", node)
		}
	}
}

// lists calls do with each list of so many numbers below most.
func lists(many, most int, do func(list []int)) {
	list := make([]int, many)
	for {
		do(list)
		at := 0
		for at < many && list[at] == most-1 {
			list[at] = 0
			at++
		}
		if at == many {
			return
		}
		list[at]++
	}
}

// shortTwins have inserts of the keys 2, 2 and 5, of these words, and nodes that carry them: twice the operation, and 1 more, if the node is marked.
func shortTwins(t *testing.T, words, nodes []int) twins {
	t.Helper()
	p := newTwins(t, small)
	for n, key := range []uint64{2, 2, 5} {
		p.insert(t, 0, key, uint64(words[n]))
	}
	both(p, func(w *world.World) int {
		var laid []int
		for _, n := range nodes {
			node := carry(t, w, n/2)
			if n%2 == 1 {
				node = -node
			}
			laid = append(laid, node)
		}
		chain(w, 1, laid...)
		return 0
	})
	return p
}

// P12.3: in all sound worlds of up to three nodes, each marked or not, of three inserts, two of which have one key, with all words that differ, a delete of any key, a thread's own one or not, ends as it is to.
func TestAllShortChains(t *testing.T) {
	takes := 0
	lists(3, 4, func(words []int) {
		for many := range 4 {
			lists(many, 6, func(nodes []int) {
				if !look.Sound(shortTwins(t, words, nodes).real) {
					return
				}
				for n, key := range []uint64{0, 2, 3, 5, 6, 2, 5} {
					takes++
					p := shortTwins(t, words, nodes)
					checkEnd(t, p, p.remove(t, 1, key, open), n < 5)
					if t.Failed() {
						t.Fatalf("words %v, nodes %v, key %d, the %d. one", words, nodes, key, n)
					}
				}
			})
		}
	})
	if takes < 15000 {
		t.Errorf("%d deletes", takes)
	}
}

// P12.3, P6: deletes and inserts one after the other, by several threads, in several buckets, do what a map does; some deletes are helped first.
func TestOneAfterTheOther(t *testing.T) {
	pick := picks()
	for range 20 {
		p := newTwins(t, api.Conf{Threads: 3, Buckets: 4, Inserts: 30, Calls: 30})
		there := map[uint64]int{}
		for range 90 {
			thread, key := pick(3), uint64(pick(8))
			if p.real.Book.Calls(thread) == 30 {
				continue
			}
			first, held := there[key]
			if pick(2) == 0 {
				op := p.insert(t, thread, key, pending)
				x := place.New(op, thread)
				for !x.Done {
					x = p.put(x)
				}
				check(t, "whether the insert won", x.Won, !held, key)
				if !held {
					there[key] = op
				}
				continue
			}
			op := p.remove(t, thread, key, open)
			if pick(3) == 0 {
				checkEnd(t, p, op, false)
				x, _ := run(p.plain, take.New(op, true))
				y, _ := run(p.real, take.New(op, true))
				check(t, "whether it won, as was told who helped", [2]bool{x.Won, y.Won}, [2]bool{held, held})
			} else {
				checkEnd(t, p, op, true)
			}
			if held {
				check(t, "whom it took out", wordOf(p.real, op), wanted(first), key)
				delete(there, key)
			}
			check(t, "how many pairs", len(look.Pairs(p.real)), len(there))
			check(t, "how many nodes", nodesIn(p.real), len(there))
			if t.Failed() {
				t.FailNow()
			}
		}
	}
}

func nodesIn(w *world.World) int {
	nodes := 0
	for bucket := range w.C.Buckets {
		nodes += len(look.Chain(w, bucket))
	}
	return nodes
}

// crowd are inserts and deletes that are done at once, each of them by one thread, or by several.
type crowd struct {
	puts  []place.Put
	takes []take.Take
}

// step is one of the n-th of the crowd.
func (c *crowd) step(t *testing.T, p twins, n int) {
	t.Helper()
	if n < len(c.puts) {
		c.puts[n] = p.put(c.puts[n])
		return
	}
	n -= len(c.puts)
	c.takes[n] = p.step(t, c.takes[n])
}

func (c *crowd) many() int {
	return len(c.puts) + len(c.takes)
}

func (c *crowd) done(n int) bool {
	if n < len(c.puts) {
		return c.puts[n].Done
	}
	return c.takes[n-len(c.puts)].Done
}

func (c *crowd) allDone() bool {
	for n := range c.many() {
		if !c.done(n) {
			return false
		}
	}
	return true
}

// won tells of each operation of the crowd whether it won, and asks that all who do one tell the same.
func (c *crowd) won(t *testing.T) map[int]bool {
	t.Helper()
	won := map[int]bool{}
	add := func(op int, so bool) {
		if before, told := won[op]; told {
			check(t, "whether it won, as others tell", so, before, op)
		}
		won[op] = so
	}
	for _, x := range c.puts {
		add(x.Op, x.Won)
	}
	for _, x := range c.takes {
		add(x.Op, x.Won)
	}
	return won
}

// checkBalance asks of a world at rest that each delete that won took out one insert that won, of its key, and each other one none; and that what was not taken out is there, with one node each. What was in at first, by none of the crowd, is asked, too.
func checkBalance(t *testing.T, w *world.World, won map[int]bool) {
	t.Helper()
	taken, still := map[int]int{}, 0
	for op := range opsOf(w.C) {
		call, _ := w.Book.Call(op)
		s := wordOf(w, op)
		if call.Kind != api.Insert {
			continue
		}
		if so, told := won[op]; told {
			check(t, "whether the insert won", so, s != pending && s != failed, op)
		}
		if s == in {
			still++
			check(t, "who is in", whoIsIn(w, call.Key), op)
		}
		if s >= out {
			by, _ := w.Book.Call(int(s - out))
			taken[int(s-out)]++
			check(t, "who took it out", by, api.Call{Kind: api.Delete, Key: call.Key, Val: 77}, op)
			check(t, "the word of who took it out", wordOf(w, int(s-out)), wanted(op))
		}
	}
	for op, so := range won {
		if call, _ := w.Book.Call(op); call.Kind == api.Delete {
			check(t, "whether the delete took one out", taken[op], map[bool]int{true: 1}[so], op)
			check(t, "whether it is settled", wordOf(w, op) != open, true, op)
		}
	}
	check(t, "whether it is sound", look.Sound(w), true)
	check(t, "how many pairs", len(look.Pairs(w)), still)
	check(t, "how many nodes", nodesIn(w), still)
}

// newCrowd has inserts and deletes of three keys, each of them done by its own thread, and most of them by others, too.
func newCrowd(t *testing.T, p twins, pick func(bound int) int) *crowd {
	t.Helper()
	c := &crowd{}
	for range 8 {
		own, key := pick(4), uint64(1+pick(3))
		if pick(2) == 0 {
			op := p.insert(t, own, key, pending)
			c.puts = append(c.puts, place.New(op, own))
			for range pick(3) {
				c.puts = append(c.puts, place.New(op, pick(4)))
			}
			continue
		}
		op := p.remove(t, own, key, open)
		c.takes = append(c.takes, take.New(op, true))
		for range pick(3) {
			c.takes = append(c.takes, take.New(op, false))
		}
	}
	return c
}

// P12.2, P2, P6: deletes and inserts that disturb each other, some of them by several threads: each step is as foretold, the world is sound all the time, all end, whoever does one tells the same of it, and who won took out who is not there any more.
func TestDeletesThatDisturbEachOther(t *testing.T) {
	pick := picks()
	for n := range 1500 {
		p := newTwins(t, api.Conf{Threads: 4, Buckets: 1 + n%2, Inserts: 8, Calls: 24})
		c := newCrowd(t, p, pick)
		for left := 6000; !c.allDone(); left-- {
			if left == 0 {
				t.Fatalf("it doesn't end: %+v", c)
			}
			who := pick(c.many())
			for range 1 + pick(4) {
				c.step(t, p, who)
			}
			check(t, "whether it is sound", look.Sound(p.real), true)
		}
		checkBalance(t, p.real, c.won(t))
		if t.Failed() {
			t.Fatalf("the %d. crowd: %+v", n, c)
		}
	}
}

// state is all that the further way of two hangs on.
func state(p twins, c *crowd) string {
	return fmt.Sprint(peekAll(p.real), p.real.Book.Made(0), p.real.Book.Made(1), c.puts, c.takes)
}

// turns goes all the ways of a crowd of two, one step of either at a time, from the state that first makes, and calls end where both are done. A state that was come to before isn't gone on from.
func turns(t *testing.T, first func() (twins, *crowd), end func(p twins, c *crowd)) int {
	t.Helper()
	seen, ends := map[string]bool{}, 0
	ways := [][]int{nil}
	for len(ways) > 0 {
		way := ways[len(ways)-1]
		ways = ways[:len(ways)-1]
		p, c := first()
		for _, n := range way {
			c.step(t, p, n)
		}
		if s := state(p, c); seen[s] {
			continue
		} else {
			seen[s] = true
		}
		check(t, "whether it is sound", look.Sound(p.real), true, way)
		if c.allDone() {
			ends++
			end(p, c)
		}
		if t.Failed() {
			t.Fatalf("the way is %v", way)
		}
		for n := range c.many() {
			if !c.done(n) {
				ways = append(ways, append(slices.Clone(way), n))
			}
		}
	}
	return ends
}

// P12.3, P2, P6: of two deletes of one pair one wins, whatever the turn of their steps is.
func TestAllTurnsOfTwoDeletes(t *testing.T) {
	ends := turns(t, func() (twins, *crowd) {
		p := shortTwins(t, []int{in, failed, in}, []int{0, 4})
		return p, &crowd{takes: []take.Take{take.New(p.remove(t, 0, 2, open), true), take.New(p.remove(t, 1, 2, open), true)}}
	}, func(p twins, c *crowd) {
		won := c.won(t)
		check(t, "whether one won", won[3] != won[4], true)
		checkBalance(t, p.real, won)
		checkPairs(t, p.real, api.Pair{Key: 5, Val: 50})
	})
	check(t, "whether there is more than one end", ends > 1, true)
}

// P12.3, P2: of two deletes of pairs that stand side by side both win, whatever the turn of their steps is.
func TestAllTurnsOfNeighbours(t *testing.T) {
	turns(t, func() (twins, *crowd) {
		p := shortTwins(t, []int{in, failed, in}, []int{0, 4})
		return p, &crowd{takes: []take.Take{take.New(p.remove(t, 0, 2, open), true), take.New(p.remove(t, 1, 5, open), true)}}
	}, func(p twins, c *crowd) {
		won := c.won(t)
		check(t, "whether both won", won[3] && won[4], true)
		checkBalance(t, p.real, won)
		checkPairs(t, p.real)
	})
}

// P12.2, P2, P3: of one delete that two threads do both tell the same, whatever the turn of their steps is; and what its own thread does leaves nothing behind.
func TestAllTurnsOfHelp(t *testing.T) {
	for _, there := range []int{in, pending, out} {
		turns(t, func() (twins, *crowd) {
			p := shortTwins(t, []int{there, failed, in}, []int{0, 4})
			op := p.remove(t, 1, 2, open)
			return p, &crowd{takes: []take.Take{take.New(op, true), take.New(op, false)}}
		}, func(p twins, c *crowd) {
			won := c.won(t)
			check(t, "whether it won", won[4], there == in, there)
			if there == in {
				checkChain(t, p.real, 3)
			}
			checkPairs(t, p.real, api.Pair{Key: 5, Val: 50})
		})
	}
}

// P12.2, P2, P6: of a delete and an insert of one key, whatever the turn of their steps is: where there was a pair the delete takes it out, and else the insert's, or none.
func TestAllTurnsWithAnInsert(t *testing.T) {
	for _, there := range []int{in, out} {
		ends := map[[2]bool]int{}
		turns(t, func() (twins, *crowd) {
			p := shortTwins(t, []int{there, failed, in}, []int{0, 4})
			return p, &crowd{
				puts:  []place.Put{place.New(p.insert(t, 0, 2, pending), 0)},
				takes: []take.Take{take.New(p.remove(t, 1, 2, open), true)},
			}
		}, func(p twins, c *crowd) {
			won := c.won(t)
			ends[[2]bool{won[3], won[4]}]++
			check(t, "whether the one that had to win won", won[map[int]int{in: 4, out: 3}[there]], true, there)
			if there == in {
				check(t, "whom it took out", wordOf(p.real, 4), target)
				check(t, "whether it is there", whoIsIn(p.real, 2) == 3, won[3])
			} else {
				check(t, "whether it is there", whoIsIn(p.real, 2) == -1, won[4])
				both(p, func(w *world.World) bool { return w.Turn(0, out, failed) }) // for none that was written down took it out
			}
			checkBalance(t, p.real, won)
		})
		check(t, "how many ways it may end", len(ends), 2, there, ends)
	}
}

// P1, P2, P6: inserts and deletes of threads at once, each of which does its own and all others', end; whoever did one tells the same of it, and who won took out who is not there any more.
func TestThreads(t *testing.T) {
	const keys, threads = 12, 8
	w := fresh(t, api.Conf{Threads: threads, Buckets: 2, Inserts: 256, Calls: 256})
	var ops []int
	for thread := range threads {
		for key := range uint64(keys) {
			ops = append(ops, insert(t, w, thread, key, pending), remove(t, w, thread, key, open))
		}
	}
	var told [threads]crowd
	var joined sync.WaitGroup
	for thread := range threads {
		joined.Go(func() {
			for n := range ops {
				n = (n + 2*keys*thread) % len(ops)
				if n%2 == 0 {
					x := place.New(ops[n], thread)
					for calls := 0; calls < 100000 && !x.Done; calls++ {
						x = place.Step(w, x)
					}
					told[thread].puts = append(told[thread].puts, x)
					continue
				}
				x := take.New(ops[n], n/(2*keys) == thread)
				for calls := 0; calls < 100000 && !x.Done; calls++ {
					x = take.Step(w, x)
				}
				told[thread].takes = append(told[thread].takes, x)
			}
		})
	}
	joined.Wait()
	var all crowd
	for _, c := range told {
		check(t, "whether all are done", c.allDone(), true)
		all.puts, all.takes = append(all.puts, c.puts...), append(all.takes, c.takes...)
	}
	check(t, "how many are done", all.many(), threads*len(ops))
	checkBalance(t, w, all.won(t))
}
