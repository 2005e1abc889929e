package get_test

import (
	"fmt"
	"math"
	"slices"
	"sync"
	"testing"

	"corrie/api"
	"corrie/get"
	"corrie/look"
	"corrie/place"
	"corrie/take"
	"corrie/walk"
	"corrie/world"
)

// twins are two worlds that were put together alike: steps are done in one, and foretold in the other one, by the numbers of cells alone.
type twins struct{ real, plain *world.World }

func newTwins(t *testing.T, c api.Conf) twins {
	t.Helper()
	return twins{fresh(t, c), fresh(t, c)}
}

// both does something in both worlds, and tells what the first of them tells.
func both[T any](p twins, do func(w *world.World) T) T {
	do(p.plain)
	return do(p.real)
}

func nodesOf(c api.Conf) int {
	return 1 + c.Buckets + 2*opsOf(c)
}

func opsOf(c api.Conf) int {
	return c.Threads * c.Calls
}

// cell is the number of an operation's, or of none.
func cell(c api.Conf, op int) int {
	if op < 0 || op >= opsOf(c) {
		return -1
	}
	return nodesOf(c) + op
}

// foretell goes by the table, line by line.
func foretell(w *world.World, x get.Get) get.Get {
	if x.Done {
		return x
	}
	call, _ := w.Book.Call(x.Op)
	own := cell(w.C, x.Op)
	switch x.Phase {
	case 0:
		x.Want = w.Cells.Load(own)
		if x.Want == open {
			x.Walk, x.Phase = walk.Walk{Key: call.Key, Mode: 2, Seen: -1, Found: -1}, 1
		} else {
			x.Done, x.Found = true, found(x.Want)
		}
	case 1:
		x.Walk = walk.Step(w, x.Walk)
		if x.Walk.Done {
			x.Phase, x.Want = 2, wanted(x.Walk.Found)
		}
	case 2:
		w.Cells.Swap(own, open, x.Want)
		x.Phase = 0
	default:
		x.Done = true
	}
	return x
}

func wanted(found int) uint64 {
	if found == -1 {
		return absent
	}
	if found < 0 || found > 1<<31-1 {
		return 0
	}
	return uint64(found) + target
}

// step holds a step against what is foretold of it, in all that there is of both worlds.
func (p twins) step(t *testing.T, x get.Get) get.Get {
	t.Helper()
	before := p.real.Cells.Steps()
	want, got := foretell(p.plain, x), get.Step(p.real, x)
	if got != want {
		t.Fatalf("of %+v the step comes to %+v, not to %+v", x, got, want)
	}
	if steps := p.real.Cells.Steps(); steps != p.plain.Cells.Steps() || steps > before+1 {
		t.Fatalf("of %+v there are %d steps, and were %d: not %d", x, steps, before, p.plain.Cells.Steps())
	}
	for at := range p.real.Cells.Len() {
		if p.real.Cells.Peek(at) != p.plain.Cells.Peek(at) {
			t.Fatalf("of %+v the cells are %v, not %v", x, peekAll(p.real), peekAll(p.plain))
		}
	}
	for thread := range p.real.C.Threads {
		if p.real.Book.Made(thread) != p.plain.Book.Made(thread) || p.real.Book.Calls(thread) != p.plain.Book.Calls(thread) {
			t.Fatalf("of %+v thread %d has made %d nodes, not %d", x, thread, p.real.Book.Made(thread), p.plain.Book.Made(thread))
		}
	}
	return got
}

// insert is one in both worlds, ask a get, remove a delete.
func (p twins) insert(t *testing.T, thread int, key, word uint64) int {
	t.Helper()
	return both(p, func(w *world.World) int { return insert(t, w, thread, key, word) })
}

func (p twins) ask(t *testing.T, thread int, key, word uint64) int {
	t.Helper()
	return both(p, func(w *world.World) int { return ask(t, w, thread, key, word) })
}

func (p twins) remove(t *testing.T, thread int, key, word uint64) int {
	t.Helper()
	return both(p, func(w *world.World) int { return remove(t, w, thread, key, word) })
}

// put is a step of an insert in both worlds, take one of a delete.
func (p twins) put(x place.Put) place.Put {
	return both(p, func(w *world.World) place.Put { return place.Step(w, x) })
}

func (p twins) take(x take.Take) take.Take {
	return both(p, func(w *world.World) take.Take { return take.Step(w, x) })
}

// picks are a rule that doesn't change by which numbers below bounds are told, one after the other.
func picks() func(bound int) int {
	n := uint64(1)
	return func(bound int) int {
		n = n*6364136223846793005 + 1442695040888963407
		return int(n>>33) % bound
	}
}

// lawless are twins whose calls, nodes, words and references are whatever they are.
func lawless(t *testing.T, pick func(bound int) int, keys []uint64) twins {
	t.Helper()
	p := newTwins(t, api.Conf{Threads: 2, Buckets: 2, Inserts: 4, Calls: 2})
	for range 1 + pick(4) {
		thread, call, word := pick(2), api.Call{Kind: 1 + pick(4), Key: keys[pick(len(keys))]}, uint64(pick(8))
		both(p, func(w *world.World) bool {
			op, _ := w.Book.Begin(thread, call)
			return w.Turn(op, 0, word)
		})
	}
	for range pick(9) {
		thread, op := pick(2), pick(4)
		both(p, func(w *world.World) api.Errno { _, e := w.Book.Make(thread, op); return e })
	}
	for node := range 11 {
		lay := uint64(pick(24))
		if pick(11) == 0 {
			lay = []uint64{1, 1 << 32, 1 << 33, 1<<63 + 4, math.MaxUint64 - 1, math.MaxUint64}[pick(6)]
		}
		both(p, func(w *world.World) int { w.Set(node, lay); return 0 })
	}
	return p
}

// P13.2: of gets whose fields are whatever they are, in worlds where references, words and calls are, each step is as foretold.
func TestWhateverFields(t *testing.T) {
	pick := picks()
	keys := []uint64{0, 1, 2, 3, math.MaxUint64}
	for n := range 60000 {
		p := lawless(t, pick, keys)
		x := get.Get{Op: pick(5), Phase: pick(4), Want: uint64(pick(8)), Found: pick(6) - 1, Done: pick(32) == 0}
		x.Walk = walk.Walk{Key: keys[pick(5)], Mode: pick(5), Phase: pick(9), Pred: pick(11), Curr: pick(11), Next: uint64(pick(24)), Seen: pick(5) - 1, Found: pick(5) - 1, Stop: pick(2) == 1, Done: pick(4) == 0}
		switch n % 8 {
		case 0:
			x.Op = some[pick(len(some))]
		case 1:
			x.Want = words[pick(len(words))]
		case 2:
			x.Walk.Found, x.Phase = some[pick(len(some))], 1
		case 3:
			x.Walk.Pred = some[pick(len(some))]
		case 4:
			x.Walk.Curr = some[pick(len(some))]
		case 5:
			x.Phase = phases[pick(len(phases))]
		case 6:
			x.Phase, x.Want = 2, words[pick(len(words))]
			both(p, func(w *world.World) bool { return w.Turn(x.Op, w.Cells.Peek(cell(w.C, x.Op)), open) })
		}
		for range 6 {
			x = p.step(t, x)
		}
	}
}

// wordOf is an operation's, by no step.
func wordOf(w *world.World, op int) uint64 {
	return w.Cells.Peek(cell(w.C, op))
}

// whoIsIn is the operation of a key that is in, in a world that is sound (-1: none).
func whoIsIn(w *world.World, key uint64) int {
	for _, node := range look.Chain(w, w.Head(key)-1) {
		op := w.Book.Carried(node)
		if w.Book.Key(node) == key && wordOf(w, op) == in {
			return op
		}
	}
	return -1
}

// wordsOfOthers are those of all operations but one.
func wordsOfOthers(w *world.World, but int) []uint64 {
	var all []uint64
	for op := range opsOf(w.C) {
		if op != but {
			all = append(all, wordOf(w, op))
		}
	}
	return all
}

// checkEnd goes on to the end, step by step, where nobody disturbs, and holds the world that was sound against what it is to be then; and once more by another one, who is told the same.
func checkEnd(t *testing.T, p twins, op int) {
	t.Helper()
	w := p.real
	call, _ := w.Book.Call(op)
	there, pairs, others, nodes := whoIsIn(w, call.Key), look.Pairs(w), wordsOfOthers(w, op), look.Chain(w, w.Head(call.Key)-1)
	x := get.New(op)
	for calls := 0; !x.Done; calls++ {
		if calls == 10+6*len(nodes) {
			t.Fatalf("%d calls are not enough: %+v", calls, x)
		}
		x = p.step(t, x)
		check(t, "whether it is sound", look.Sound(w), true)
		checkPairs(t, w, pairs...)
	}
	check(t, "what it found", x.Found, there, x)
	check(t, "the word", wordOf(w, op), wanted(there), x)
	check(t, "whether the words of others stay", slices.Equal(wordsOfOthers(w, op), others), true)
	check(t, "what another one is told", p.step(t, get.New(op)), get.Get{Op: op, Want: wanted(there), Done: true, Found: there})
}

// lists calls do with each list of so many numbers below most.
func lists(many, most int, do func(list []int)) {
	list := make([]int, many)
	for {
		do(list)
		at := 0
		for at < many && list[at] == most-1 {
			list[at] = 0
			at++
		}
		if at == many {
			return
		}
		list[at]++
	}
}

// shortTwins have inserts of the keys 2, 2 and 5, of these words, and nodes that carry them: twice the operation, and 1 more, if the node is marked.
func shortTwins(t *testing.T, words, nodes []int) twins {
	t.Helper()
	p := newTwins(t, small)
	for n, key := range []uint64{2, 2, 5} {
		p.insert(t, 0, key, uint64(words[n]))
	}
	both(p, func(w *world.World) int {
		var laid []int
		for _, n := range nodes {
			node := carry(t, w, n/2)
			if n%2 == 1 {
				node = -node
			}
			laid = append(laid, node)
		}
		chain(w, 1, laid...)
		return 0
	})
	return p
}

// P13.3: in all sound worlds of up to three nodes, each marked or not, of three inserts, two of which have one key, with all words that differ, a get of any key ends, leaves the pairs as they are, and finds its key's operation, just if there is a pair.
func TestAllShortChains(t *testing.T) {
	gets := 0
	lists(3, 4, func(words []int) {
		for many := range 4 {
			lists(many, 6, func(nodes []int) {
				if !look.Sound(shortTwins(t, words, nodes).real) {
					return
				}
				for _, key := range []uint64{0, 2, 3, 5, 6} {
					gets++
					p := shortTwins(t, words, nodes)
					checkEnd(t, p, p.ask(t, 1, key, open))
					if t.Failed() {
						t.Fatalf("words %v, nodes %v, key %d", words, nodes, key)
					}
				}
			})
		}
	})
	if gets < 12000 {
		t.Errorf("%d gets", gets)
	}
}

// P13.3: gets, deletes and inserts one after the other, by several threads, in several buckets, do what a map does.
func TestOneAfterTheOther(t *testing.T) {
	pick := picks()
	for range 20 {
		p := newTwins(t, api.Conf{Threads: 3, Buckets: 4, Inserts: 30, Calls: 30})
		there := map[uint64]int{}
		for range 90 {
			thread, key := pick(3), uint64(pick(8))
			if p.real.Book.Calls(thread) == 30 {
				continue
			}
			first, held := there[key]
			switch pick(4) {
			case 0:
				op := p.insert(t, thread, key, pending)
				x := place.New(op, thread)
				for !x.Done {
					x = p.put(x)
				}
				check(t, "whether the insert won", x.Won, !held, key)
				if !held {
					there[key] = op
				}
			case 1:
				x := take.New(p.remove(t, thread, key, open), pick(2) == 0)
				for !x.Done {
					x = p.take(x)
				}
				check(t, "whether the delete won", x.Won, held, key)
				delete(there, key)
			default:
				op := p.ask(t, thread, key, open)
				checkEnd(t, p, op)
				check(t, "what was found", wordOf(p.real, op), wanted(map[bool]int{true: first, false: -1}[held]), key)
			}
			check(t, "how many pairs", len(look.Pairs(p.real)), len(there))
			if t.Failed() {
				t.FailNow()
			}
		}
	}
}

// crowd are inserts, deletes and gets that are done at once, each of them by one thread, or by several.
type crowd struct {
	puts  []place.Put
	takes []take.Take
	gets  []get.Get
}

// step is one of the n-th of the crowd.
func (c *crowd) step(t *testing.T, p twins, n int) {
	t.Helper()
	if n < len(c.puts) {
		c.puts[n] = p.put(c.puts[n])
		return
	}
	n -= len(c.puts)
	if n < len(c.takes) {
		c.takes[n] = p.take(c.takes[n])
		return
	}
	n -= len(c.takes)
	c.gets[n] = p.step(t, c.gets[n])
}

func (c *crowd) many() int {
	return len(c.puts) + len(c.takes) + len(c.gets)
}

func (c *crowd) done(n int) bool {
	if n < len(c.puts) {
		return c.puts[n].Done
	}
	n -= len(c.puts)
	if n < len(c.takes) {
		return c.takes[n].Done
	}
	return c.gets[n-len(c.takes)].Done
}

func (c *crowd) allDone() bool {
	for n := range c.many() {
		if !c.done(n) {
			return false
		}
	}
	return true
}

// told is what each get of the crowd found. It asks that all who do one tell the same, and what its word says.
func (c *crowd) told(t *testing.T, w *world.World) map[int]int {
	t.Helper()
	told := map[int]int{}
	for _, x := range c.gets {
		if before, ok := told[x.Op]; ok {
			check(t, "what it found, as others tell", x.Found, before, x.Op)
		}
		told[x.Op] = x.Found
		check(t, "the word", wordOf(w, x.Op), wanted(x.Found), x.Op)
	}
	return told
}

// seen are, of each get that is begun and isn't settled, the operations of its key that were in meanwhile (-1: at one time there was none).
type seen map[int]map[int]bool

// see is done ahead of each step, and behind it.
func (s seen) see(w *world.World, c *crowd) {
	for _, x := range c.gets {
		if wordOf(w, x.Op) == open {
			s.add(w, x.Op)
		}
	}
}

func (s seen) add(w *world.World, op int) {
	if s[op] == nil {
		s[op] = map[int]bool{}
	}
	call, _ := w.Book.Call(op)
	s[op][whoIsIn(w, call.Key)] = true
}

// forget is for gets that nobody has begun yet: what was in then says nothing.
func (s seen) forget(c *crowd) {
	begun := map[int]bool{}
	for _, x := range c.gets {
		begun[x.Op] = begun[x.Op] || x != get.New(x.Op)
	}
	for op, so := range begun {
		if !so {
			delete(s, op)
		}
	}
}

// newCrowd has inserts, deletes and gets of three keys, each of them done by its own thread, and most of them by others, too.
func newCrowd(t *testing.T, p twins, pick func(bound int) int) *crowd {
	t.Helper()
	c := &crowd{}
	for range 10 {
		own, key := pick(4), uint64(1+pick(3))
		switch pick(4) {
		case 0:
			op := p.insert(t, own, key, pending)
			c.puts = append(c.puts, place.New(op, own))
			for range pick(3) {
				c.puts = append(c.puts, place.New(op, pick(4)))
			}
		case 1:
			op := p.remove(t, own, key, open)
			c.takes = append(c.takes, take.New(op, true))
			for range pick(3) {
				c.takes = append(c.takes, take.New(op, false))
			}
		default:
			op := p.ask(t, own, key, open)
			for range 1 + pick(3) {
				c.gets = append(c.gets, get.New(op))
			}
		}
	}
	return c
}

// P13.2, P2: gets that inserts and deletes disturb, some of them by several threads: each step is as foretold, all end, whoever does one tells the same of it, and what it tells was so at a time at which it was on its way.
func TestGetsThatAreDisturbed(t *testing.T) {
	pick := picks()
	differ := 0
	for n := range 1500 {
		p := newTwins(t, api.Conf{Threads: 4, Buckets: 1 + n%2, Inserts: 10, Calls: 24})
		c, s := newCrowd(t, p, pick), seen{}
		for left := 8000; !c.allDone(); left-- {
			if left == 0 {
				t.Fatalf("it doesn't end: %+v", c)
			}
			who := pick(c.many())
			for range 1 + pick(4) {
				s.forget(c)
				s.see(p.real, c)
				c.step(t, p, who)
				s.see(p.real, c)
			}
			check(t, "whether it is sound", look.Sound(p.real), true)
		}
		for op, found := range c.told(t, p.real) {
			check(t, "whether it was so", s[op][found], true, op, found, s[op])
			if len(s[op]) > 1 {
				differ++
			}
		}
		if t.Failed() {
			t.Fatalf("the %d. crowd: %+v", n, c)
		}
	}
	check(t, "whether many are disturbed", differ > 500, true, differ)
}

// state is all that the further way of two hangs on.
func state(p twins, c *crowd) string {
	return fmt.Sprint(peekAll(p.real), p.real.Book.Made(0), p.real.Book.Made(1), c.puts, c.takes, c.gets)
}

// turns goes all the ways of a crowd of two, one step of either at a time, from the state that first makes, and calls end where both are done. A state that was come to before isn't gone on from.
func turns(t *testing.T, first func() (twins, *crowd), end func(p twins, c *crowd)) int {
	t.Helper()
	seen, ends := map[string]bool{}, 0
	ways := [][]int{nil}
	for len(ways) > 0 {
		way := ways[len(ways)-1]
		ways = ways[:len(ways)-1]
		p, c := first()
		for _, n := range way {
			c.step(t, p, n)
		}
		if s := state(p, c); seen[s] {
			continue
		} else {
			seen[s] = true
		}
		check(t, "whether it is sound", look.Sound(p.real), true, way)
		if c.allDone() {
			ends++
			end(p, c)
		}
		if t.Failed() {
			t.Fatalf("the way is %v", way)
		}
		for n := range c.many() {
			if !c.done(n) {
				ways = append(ways, append(slices.Clone(way), n))
			}
		}
	}
	return ends
}

// P13.3, P2: of two gets of one key both find what is there, whatever the turn of their steps is.
func TestAllTurnsOfTwoGets(t *testing.T) {
	for _, there := range []int{pending, in, failed, out} {
		turns(t, func() (twins, *crowd) {
			p := shortTwins(t, []int{there, failed, in}, []int{0, 4})
			return p, &crowd{gets: []get.Get{get.New(p.ask(t, 0, 2, open)), get.New(p.ask(t, 1, 2, open))}}
		}, func(p twins, c *crowd) {
			want := map[bool]int{true: 0, false: -1}[there == in]
			told := c.told(t, p.real)
			check(t, "what both found", [2]int{told[3], told[4]}, [2]int{want, want}, there)
		})
	}
}

// P13.2, P2, P3: of one get that two threads do both tell the same, whatever the turn of their steps is.
func TestAllTurnsOfHelp(t *testing.T) {
	for _, there := range []int{pending, in, failed, out} {
		turns(t, func() (twins, *crowd) {
			p := shortTwins(t, []int{there, failed, in}, []int{0, 4})
			op := p.ask(t, 1, 2, open)
			return p, &crowd{gets: []get.Get{get.New(op), get.New(op)}}
		}, func(p twins, c *crowd) {
			check(t, "what it found", c.told(t, p.real)[4], map[bool]int{true: 0, false: -1}[there == in], there)
		})
	}
}

// P13.2, P2: of a get and an insert of one key, whatever the turn of their steps is: where there was a pair it is found, and else the insert's, or none.
func TestAllTurnsWithAnInsert(t *testing.T) {
	for _, there := range []int{in, out} {
		ends := map[int]int{}
		turns(t, func() (twins, *crowd) {
			p := shortTwins(t, []int{there, failed, in}, []int{0, 4})
			return p, &crowd{
				puts: []place.Put{place.New(p.insert(t, 0, 2, pending), 0)},
				gets: []get.Get{get.New(p.ask(t, 1, 2, open))},
			}
		}, func(p twins, c *crowd) {
			ends[c.told(t, p.real)[4]]++
			check(t, "whether the insert won", c.puts[0].Won, there == out)
		})
		check(t, "whether the pair is found", ends[0] > 0, there == in, ends)
		check(t, "whether none is found", ends[-1] > 0, there == out, ends)
		check(t, "whether the insert's is found", ends[3] > 0, there == out, ends)
	}
}

// P13.2, P2: of a get and a delete of one key, whatever the turn of their steps is: the pair is found, or none.
func TestAllTurnsWithADelete(t *testing.T) {
	ends := map[int]int{}
	turns(t, func() (twins, *crowd) {
		p := shortTwins(t, []int{in, failed, in}, []int{0, 4})
		return p, &crowd{
			takes: []take.Take{take.New(p.remove(t, 0, 2, open), true)},
			gets:  []get.Get{get.New(p.ask(t, 1, 2, open))},
		}
	}, func(p twins, c *crowd) {
		ends[c.told(t, p.real)[4]]++
		check(t, "whether the delete won", c.takes[0].Won, true)
		checkPairs(t, p.real, api.Pair{Key: 5, Val: 50})
	})
	check(t, "whether the pair is found, and none", ends[0] > 0 && ends[-1] > 0 && len(ends) == 2, true, ends)
}

// P13.3, P2: a get of a key finds its pair, whatever the turn of its steps and of those of a delete, or of an insert, of another key is.
func TestAllTurnsWithNeighbours(t *testing.T) {
	for _, put := range []bool{false, true} {
		turns(t, func() (twins, *crowd) {
			p := shortTwins(t, []int{in, failed, in}, []int{0, 4})
			c := &crowd{}
			if put {
				c.puts = append(c.puts, place.New(p.insert(t, 0, 3, pending), 0))
			} else {
				c.takes = append(c.takes, take.New(p.remove(t, 0, 2, open), true))
			}
			c.gets = append(c.gets, get.New(p.ask(t, 1, 5, open)))
			return p, c
		}, func(p twins, c *crowd) {
			check(t, "what it found", c.told(t, p.real)[4], 2, put)
		})
	}
}

// P1, P2: inserts, deletes and gets of threads at once, each of which does its own and all others', end; whoever did a get tells the same of it; and what is there all the time is found.
func TestThreads(t *testing.T) {
	const keys, threads = 9, 8
	w := fresh(t, api.Conf{Threads: threads, Buckets: 2, Inserts: 256, Calls: 256})
	stays := insert(t, w, 0, 100, pending)
	for x := place.New(stays, 0); !x.Done; {
		x = place.Step(w, x)
	}
	var ops []int
	for thread := range threads {
		for key := range uint64(keys) {
			ops = append(ops, insert(t, w, thread, key, pending), ask(t, w, thread, key, open), remove(t, w, thread, key, open), ask(t, w, thread, 100, open))
		}
	}
	var told [threads]crowd
	var joined sync.WaitGroup
	for thread := range threads {
		joined.Go(func() {
			for n := range ops {
				n = (n + 4*keys*thread) % len(ops)
				told[thread].doAll(w, ops[n], thread, n/(4*keys) == thread)
			}
		})
	}
	joined.Wait()
	var all crowd
	for _, c := range told {
		check(t, "whether all are done", c.allDone(), true)
		check(t, "how many are done", c.many(), len(ops))
		all.gets = append(all.gets, c.gets...)
	}
	for op, found := range all.told(t, w) {
		call, _ := w.Book.Call(op)
		if call.Key == 100 {
			check(t, "what is there all the time", found, stays, op)
		} else if found != -1 {
			insert, _ := w.Book.Call(found)
			check(t, "whose key was found", [2]uint64{uint64(insert.Kind), insert.Key}, [2]uint64{api.Insert, call.Key}, op)
			check(t, "whether that was in", wordOf(w, found) == in || wordOf(w, found) >= out, true, op)
		}
	}
}

// doAll does an operation to its end, or too long.
func (c *crowd) doAll(w *world.World, op, thread int, own bool) {
	call, _ := w.Book.Call(op)
	put, out, asked := place.New(op, thread), take.New(op, own), get.New(op)
	for range 100000 {
		switch call.Kind {
		case api.Insert:
			put = place.Step(w, put)
		case api.Delete:
			out = take.Step(w, out)
		default:
			asked = get.Step(w, asked)
		}
		if put.Done || out.Done || asked.Done {
			break
		}
	}
	switch call.Kind {
	case api.Insert:
		c.puts = append(c.puts, put)
	case api.Delete:
		c.takes = append(c.takes, out)
	default:
		c.gets = append(c.gets, asked)
	}
}
