package world_test

import (
	"math"
	"sync"
	"sync/atomic"
	"testing"

	"corrie/api"
	"corrie/cells"
	"corrie/world"
)

// small is a layout of 17 nodes, 6 operations and 2 threads: 25 cells, of which those from 17 on are operations', and those from 23 on threads'.
var small = api.Conf{Threads: 2, Buckets: 4, Inserts: 1, Fuel: 5, Calls: 3}

// tiny is the least layout that may be: 4 nodes, 1 operation and 1 thread.
var tiny = api.Conf{Threads: 1, Buckets: 1, Calls: 1}

// greatest is the greatest layout that may be: 4161 nodes, 2048 operations and 8 threads.
var greatest = api.Conf{Threads: 8, Buckets: 64, Inserts: 256, Fuel: 65536, Calls: 256}

// layouts are some that may be.
var layouts = [6]api.Conf{
	small,
	tiny,
	greatest,
	{Threads: 2, Buckets: 2, Inserts: 1, Fuel: 5, Calls: 3},
	{Threads: 3, Buckets: 16, Inserts: 256, Fuel: 65536, Calls: 4},
	{Threads: 8, Buckets: 64, Inserts: 3, Fuel: 1, Calls: 5},
}

// far are numbers that no layout has anything of: far off, and those that are within only where they are cut short, or where a product or a sum of them wraps round.
var far = []int{
	math.MinInt, math.MinInt + 1, math.MinInt + 5, -1 << 62, -1<<32 - 1, -1 << 32, -1<<32 + 1, -1 << 31, -65536, -4161, -256, -25, -24, -23, -18, -17, -6, -5, -4, -3, -2, -1,
	8192, 65536, 1 << 20, 1<<31 - 1, 1 << 31, 1<<32 - 1, 1 << 32, 1<<32 + 1, 1<<32 + 5, 1 << 61, 1 << 62, 1<<62 + 1, math.MaxInt - 24, math.MaxInt - 1, math.MaxInt,
}

// someWords are the least, the greatest, and those with one bit each.
func someWords() []uint64 {
	words := []uint64{0, 3, 5, 1<<32 - 1, 1<<63 - 1, 1<<63 + 1, math.MaxUint64 - 1, math.MaxUint64}
	for bit := range 64 {
		words = append(words, 1<<bit)
	}
	return words
}

// check holds what was told against what is asked.
func check[T comparable](t *testing.T, name string, got, want T, of ...any) {
	t.Helper()
	if got != want {
		t.Errorf("%s of %+v is %+v, not %+v", name, of, got, want)
	}
}

// fresh is a new world of a layout that may be.
func fresh(t *testing.T, c api.Conf) *world.World {
	t.Helper()
	w, e := world.New(c)
	if e != api.OK || w == nil {
		t.Fatalf("New of %+v is %v and %d", c, w, e)
	}
	return w
}

// nodes, ops and all are how many nodes, operations and cells a layout has, by chapters 4 and 5.
func nodes(c api.Conf) int {
	return 1 + c.Buckets + 2*ops(c)
}

func ops(c api.Conf) int {
	return c.Threads * c.Calls
}

func all(c api.Conf) int {
	return nodes(c) + ops(c) + c.Threads
}

// checkCells holds all cells and the count of steps against what is asked, without a step. Cells that aren't named are 0.
func checkCells(t *testing.T, w *world.World, steps int, words map[int]uint64) {
	t.Helper()
	check(t, "Len", w.Cells.Len(), all(w.C), w.C)
	for at := range w.Cells.Len() {
		check(t, "Peek", w.Cells.Peek(at), words[at], w.C, at)
	}
	check(t, "Steps", w.Cells.Steps(), steps, w.C)
}

// checkNewBook holds a book against one in which nothing was written down.
func checkNewBook(t *testing.T, w *world.World) {
	t.Helper()
	if w.Book == nil {
		t.Fatalf("the world of %+v has no book", w.C)
	}
	for thread := range w.C.Threads {
		check(t, "Calls", w.Book.Calls(thread), 0, w.C, thread)
		check(t, "Made", w.Book.Made(thread), 0, w.C, thread)
	}
	for op := range ops(w.C) {
		_, e := w.Book.Call(op)
		check(t, "the error of Call", e, api.ErrNone, w.C, op)
	}
	for node := range nodes(w.C) {
		check(t, "Carried", w.Book.Carried(node), -1, w.C, node)
	}
}

// together runs so many threads of one thing, and ends when all have.
func together(threads int, do func(thread int)) {
	var joined sync.WaitGroup
	for thread := range threads {
		joined.Go(func() { do(thread) })
	}
	joined.Wait()
}

// P8.1: a new world has the layout, all its cells, that are 0, and a new book; to make it was no step.
func TestNewWorld(t *testing.T) {
	for _, c := range layouts {
		w := fresh(t, c)
		check(t, "C", w.C, c)
		checkCells(t, w, 0, nil)
		checkNewBook(t, w)
	}
	check(t, "Len", fresh(t, small).Cells.Len(), 25)
	check(t, "Len", fresh(t, tiny).Cells.Len(), 6)
	check(t, "Len", fresh(t, greatest).Cells.Len(), 6217)
}

// P8.1: of whatever threads, buckets and calls there are as many cells as the layout says.
func TestNewWorldOfAllLayouts(t *testing.T) {
	for threads := 1; threads <= 8; threads++ {
		for buckets := 1; buckets <= 64; buckets *= 2 {
			for _, calls := range []int{1, 2, 7, 255, 256} {
				c := api.Conf{Threads: threads, Buckets: buckets, Inserts: calls / 2, Fuel: calls, Calls: calls}
				w := fresh(t, c)
				check(t, "C", w.C, c)
				check(t, "Len", w.Cells.Len(), all(c), c)
			}
		}
	}
}

// P8.1: the new book is one of that layout: it bears its calls and inserts, and no more.
func TestBookOfTheLayout(t *testing.T) {
	w := fresh(t, small)
	for n, want := range []struct {
		thread, kind, op int
		e                api.Errno
	}{
		{1, api.Insert, 3, api.OK},
		{1, api.Insert, 0, api.ErrFull},
		{0, api.Delete, 0, api.OK},
		{1, api.Get, 5, api.OK},
		{1, api.Scan, 0, api.ErrRetired},
		{0, api.Insert, 1, api.OK},
		{2, api.Get, 0, api.ErrArg},
	} {
		op, e := w.Book.Begin(want.thread, api.Call{Kind: want.kind, Key: 7})
		check(t, "Begin", op, want.op, n)
		check(t, "the error of Begin", e, want.e, n)
	}
	for n := range 6 {
		node, e := w.Book.Make(1, 3)
		check(t, "Make", node, 11+n, n)
		check(t, "the error of Make", e, api.OK, n)
	}
	_, e := w.Book.Make(1, 3)
	check(t, "the error of Make", e, api.ErrFull)
	checkCells(t, w, 0, nil)
}

// P8.1: of a layout that may not be there is no world, but the book's error.
func TestNewOfLayoutsThatMayNotBe(t *testing.T) {
	wrong := []api.Conf{{}, {Threads: -2, Buckets: 4, Calls: -3}, {Threads: 1 << 32, Buckets: 4, Calls: 1 << 32}, {Threads: -1, Buckets: -1, Inserts: -1, Fuel: -1, Calls: -1}}
	for _, set := range []func(c *api.Conf){
		func(c *api.Conf) { c.Threads = 0 },
		func(c *api.Conf) { c.Threads = -1 },
		func(c *api.Conf) { c.Threads = 9 },
		func(c *api.Conf) { c.Threads = math.MaxInt },
		func(c *api.Conf) { c.Buckets = 0 },
		func(c *api.Conf) { c.Buckets = 3 },
		func(c *api.Conf) { c.Buckets = 128 },
		func(c *api.Conf) { c.Inserts = -1 },
		func(c *api.Conf) { c.Inserts = 257 },
		func(c *api.Conf) { c.Fuel = -1 },
		func(c *api.Conf) { c.Fuel = 65537 },
		func(c *api.Conf) { c.Calls = 0 },
		func(c *api.Conf) { c.Calls = 257 },
		func(c *api.Conf) { c.Calls = math.MinInt },
	} {
		for _, c := range layouts {
			set(&c)
			wrong = append(wrong, c)
		}
	}
	for _, c := range wrong {
		w, e := world.New(c)
		check(t, "New", w, nil, c)
		check(t, "the error of New", e, api.ErrArg, c)
	}
}

// P8.2: one thing after the other, each with the cells and how many steps there were.
func TestNamedSteps(t *testing.T) {
	w := fresh(t, small)
	w.Set(1, 6)
	checkCells(t, w, 1, map[int]uint64{1: 6})
	check(t, "Next", w.Next(1), 6, 1)
	checkCells(t, w, 2, map[int]uint64{1: 6})
	check(t, "Link", w.Link(1, 5, 8), false, 1, 5, 8)
	checkCells(t, w, 3, map[int]uint64{1: 6})
	check(t, "Link", w.Link(1, 6, 8), true, 1, 6, 8)
	checkCells(t, w, 4, map[int]uint64{1: 8})
	check(t, "Next", w.Next(1), 8, 1)
	checkCells(t, w, 5, map[int]uint64{1: 8})
	check(t, "Turn", w.Turn(5, 0, 1), true, 5, 0, 1)
	checkCells(t, w, 6, map[int]uint64{1: 8, 22: 1})
	check(t, "Turn", w.Turn(5, 0, 2), false, 5, 0, 2)
	checkCells(t, w, 7, map[int]uint64{1: 8, 22: 1})
	check(t, "Word", w.Word(5), 1, 5)
	checkCells(t, w, 8, map[int]uint64{1: 8, 22: 1})
	w.Say(1, 5)
	checkCells(t, w, 9, map[int]uint64{1: 8, 22: 1, 24: 6})
	check(t, "Ann", w.Ann(1), 5, 1)
	checkCells(t, w, 10, map[int]uint64{1: 8, 22: 1, 24: 6})
	check(t, "Ann", w.Ann(0), -1, 0)
	checkCells(t, w, 11, map[int]uint64{1: 8, 22: 1, 24: 6})
	w.Say(1, -1)
	checkCells(t, w, 12, map[int]uint64{1: 8, 22: 1})
	check(t, "Ann", w.Ann(1), -1, 1)
	checkCells(t, w, 13, map[int]uint64{1: 8, 22: 1})
	w.Set(1, 0)
	checkCells(t, w, 14, map[int]uint64{22: 1})
	check(t, "Link", w.Link(1, 0, 0), true, 1, 0, 0)
	checkCells(t, w, 15, map[int]uint64{22: 1})
	check(t, "Turn", w.Turn(5, 1, 1), true, 5, 1, 1)
	checkCells(t, w, 16, map[int]uint64{22: 1})
	checkNewBook(t, w)
}

// layAll gives each thing of a world a word of its own, and tells which cell has which.
func layAll(w *world.World) map[int]uint64 {
	words := map[int]uint64{}
	for node := range nodes(w.C) {
		w.Set(node, uint64(10000+node))
		words[node] = uint64(10000 + node)
	}
	for op := range ops(w.C) {
		w.Turn(op, 0, uint64(20000+op))
		words[nodes(w.C)+op] = uint64(20000 + op)
	}
	for thread := range w.C.Threads {
		w.Say(thread, 30000+thread)
		words[nodes(w.C)+ops(w.C)+thread] = uint64(30001 + thread)
	}
	return words
}

// P8.2, P8.4: each thing has a cell of its own, the one that the layout says, and is told from there.
func TestEachThingHasItsCell(t *testing.T) {
	for _, c := range layouts {
		w := fresh(t, c)
		words := layAll(w)
		checkCells(t, w, all(c), words)
		for node := range nodes(c) {
			check(t, "Next", w.Next(node), uint64(10000+node), c, node)
		}
		for op := range ops(c) {
			check(t, "Word", w.Word(op), uint64(20000+op), c, op)
		}
		for thread := range c.Threads {
			check(t, "Ann", w.Ann(thread), 30000+thread, c, thread)
		}
		checkCells(t, w, 2*all(c), words)
		for node := range nodes(c) {
			check(t, "Link", w.Link(node, 10000+uint64(node), 7), true, c, node)
			words[node] = 7
		}
		checkCells(t, w, 2*all(c)+nodes(c), words)
	}
}

// P8.2: references and words of all bits are told as they were laid, and Link and Turn ask for all bits of the old one.
func TestAllBits(t *testing.T) {
	w := fresh(t, tiny)
	for _, word := range someWords() {
		w.Set(3, word)
		check(t, "Next", w.Next(3), word, word)
		check(t, "Turn", w.Turn(0, w.Word(0), word), true, word)
		check(t, "Word", w.Word(0), word, word)
		for bit := range 64 {
			other := word ^ 1<<bit
			check(t, "Link", w.Link(3, other, 77), false, word, bit)
			check(t, "Link", w.Link(3, word, other), true, word, bit)
			check(t, "Link", w.Link(3, other, word), true, word, bit)
			check(t, "Turn", w.Turn(0, other, 77), false, word, bit)
			check(t, "Turn", w.Turn(0, word, other), true, word, bit)
			check(t, "Turn", w.Turn(0, other, word), true, word, bit)
		}
		check(t, "Next", w.Next(3), word, word)
		check(t, "Word", w.Word(0), word, word)
	}
}

// P8.2: what is announced is laid as one more, and told as one less, whatever it is: no thread asks for whether there is such an operation.
func TestWhatIsAnnounced(t *testing.T) {
	w := fresh(t, small)
	for _, op := range append([]int{0, 1, 2, 5, 6, 7, 255, 2047}, far...) {
		w.Say(1, op)
		check(t, "Peek", w.Cells.Peek(24), uint64(op)+1, op)
		check(t, "Ann", w.Ann(1), op, op)
		check(t, "Ann", w.Ann(0), -1, op)
	}
	w.Say(1, 0)
	checkCells(t, w, w.Cells.Steps(), map[int]uint64{24: 1})
	w.Say(1, -1)
	checkCells(t, w, w.Cells.Steps(), nil)
	for _, word := range someWords() {
		w.Cells.Store(23, word)
		check(t, "Ann", w.Ann(0), int(word-1), word)
	}
}

// checkNone does all that may be done with a thing of that number, where there is no such node, operation or thread as none names.
func checkNone(t *testing.T, w *world.World, at int, node, op, thread bool) {
	t.Helper()
	for _, word := range []uint64{0, 1, 6, math.MaxUint64} {
		if node {
			w.Set(at, word)
			check(t, "Next", w.Next(at), 0, w.C, at)
			check(t, "Link", w.Link(at, 0, word), false, w.C, at, word)
			check(t, "Link", w.Link(at, word, 9), false, w.C, at, word)
			check(t, "Link", w.Link(at, word, word), false, w.C, at, word)
		}
		if op {
			check(t, "Word", w.Word(at), 0, w.C, at)
			check(t, "Turn", w.Turn(at, 0, word), false, w.C, at, word)
			check(t, "Turn", w.Turn(at, word, 9), false, w.C, at, word)
			check(t, "Turn", w.Turn(at, word, word), false, w.C, at, word)
		}
		if thread {
			w.Say(at, int(word))
			check(t, "Ann", w.Ann(at), -1, w.C, at)
		}
	}
}

// P8.2, P8.4: of a thing that there isn't all is 0, false, -1 or nothing; nothing is laid, of whatever else, and it is no step. A number that is beyond one kind's may be another kind's cell.
func TestThingsThatThereAreNot(t *testing.T) {
	for _, c := range layouts {
		w := fresh(t, c)
		words := layAll(w)
		for at := range all(c) + 5 {
			checkNone(t, w, at, at >= nodes(c), at >= ops(c), at >= c.Threads)
		}
		for _, at := range far {
			checkNone(t, w, at, true, true, true)
		}
		checkCells(t, w, all(c), words)
		checkNewBook(t, w)
	}
}

// P8.2: the last node, operation and thread are there, and those behind them aren't.
func TestLastThings(t *testing.T) {
	for _, c := range layouts {
		w := fresh(t, c)
		w.Set(nodes(c)-1, 4)
		w.Set(nodes(c), 5)
		check(t, "Turn", w.Turn(ops(c)-1, 0, 6), true, c)
		check(t, "Turn", w.Turn(ops(c), 0, 7), false, c)
		w.Say(c.Threads-1, 7)
		w.Say(c.Threads, 8)
		checkCells(t, w, 3, map[int]uint64{nodes(c) - 1: 4, nodes(c) + ops(c) - 1: 6, all(c) - 1: 8})
		check(t, "Next", w.Next(nodes(c)-1), 4, c)
		check(t, "Word", w.Word(ops(c)-1), 6, c)
		check(t, "Ann", w.Ann(c.Threads-1), 7, c)
	}
}

// P8.2: the node 0 has a cell like others.
func TestNodeNone(t *testing.T) {
	w := fresh(t, small)
	w.Set(0, 3)
	check(t, "Link", w.Link(0, 3, 4), true)
	check(t, "Next", w.Next(0), 4)
	checkCells(t, w, 3, map[int]uint64{0: 4})
}

// P8.3: heads of named keys, of 1, 2, 4, 8, 16, 32 and 64 buckets.
func TestHeadsOfKeys(t *testing.T) {
	for _, c := range []struct {
		key  uint64
		want [7]int
	}{
		{0, [7]int{1, 1, 1, 1, 1, 1, 1}},
		{1, [7]int{1, 2, 3, 5, 10, 20, 40}},
		{2, [7]int{1, 1, 1, 2, 4, 8, 16}},
		{3, [7]int{1, 2, 4, 7, 14, 28, 55}},
		{64, [7]int{1, 2, 3, 5, 9, 18, 36}},
		{1000, [7]int{1, 1, 1, 1, 1, 2, 3}},
		{1 << 32, [7]int{1, 1, 2, 4, 8, 16, 32}},
		{1 << 63, [7]int{1, 2, 3, 5, 9, 17, 33}},
		{math.MaxUint64, [7]int{1, 1, 2, 4, 7, 13, 25}},
		{17428512612931826493, [7]int{1, 1, 1, 1, 1, 1, 1}},   // its product is 1
		{1018231460777725123, [7]int{1, 2, 4, 8, 16, 32, 64}}, // its product is 2^64 less 1
	} {
		for power, want := range c.want {
			w := fresh(t, api.Conf{Threads: 1, Buckets: 1 << power, Calls: 1})
			check(t, "Head", w.Head(c.key), want, c.key, 1<<power)
			checkCells(t, w, 0, nil)
		}
	}
}

// P8.3: each bucket's head is some key's, and no head is none of them, however many keys there are.
func TestEachHeadHasKeys(t *testing.T) {
	for power := range 7 {
		w := fresh(t, api.Conf{Threads: 2, Buckets: 1 << power, Calls: 2})
		seen := map[int]bool{}
		for key := range uint64(2000) {
			for _, k := range []uint64{key, math.MaxUint64 - key, key << 40} {
				head := w.Head(k)
				seen[head] = true
				if head < 1 || head > 1<<power {
					t.Errorf("Head of %d, of %d buckets, is %d", k, 1<<power, head)
				}
			}
		}
		check(t, "how many heads", len(seen), 1<<power)
		checkCells(t, w, 0, nil)
	}
}

// P8.3, P8.4: Head is no step, hangs on no cell, and changes none, nor the book.
func TestHeadIsNoStep(t *testing.T) {
	w := fresh(t, small)
	words := layAll(w)
	for key := range uint64(100) {
		check(t, "Head", w.Head(key), fresh(t, small).Head(key), key)
	}
	checkCells(t, w, 25, words)
	checkNewBook(t, w)
}

// P8.3: of a World that is nil all is 0, -1, false, or nothing, whatever is handed in.
func TestNil(t *testing.T) {
	var w *world.World
	for _, n := range append([]int{0, 1, 2, 5, 24}, far...) {
		for _, word := range []uint64{0, 1, 6, math.MaxUint64} {
			w.Set(n, word)
			w.Say(n, int(word))
			w.Say(int(word), n)
			check(t, "Next", w.Next(n), 0, n)
			check(t, "Link", w.Link(n, 0, word), false, n, word)
			check(t, "Link", w.Link(n, word, word), false, n, word)
			check(t, "Word", w.Word(n), 0, n)
			check(t, "Turn", w.Turn(n, 0, word), false, n, word)
			check(t, "Turn", w.Turn(n, word, word), false, n, word)
			check(t, "Ann", w.Ann(n), -1, n)
			check(t, "Head", w.Head(word), -1, word)
			check(t, "Head", w.Head(uint64(n)), -1, n)
		}
	}
}

// P1: no call panics of a World that was put together of what there isn't: of no cells, or no layout, there is no thing, and no step.
func TestWorldsWithoutMuch(t *testing.T) {
	empty := &world.World{}
	noCells := &world.World{C: small}
	noLayout := &world.World{Cells: cells.New(25)}
	for _, w := range []*world.World{empty, noCells, noLayout} {
		for _, n := range append([]int{0, 1, 2, 5, 24}, far...) {
			checkNone(t, w, n, true, true, true)
		}
		check(t, "Steps", w.Cells.Steps(), 0)
	}
	check(t, "Head", noCells.Head(1), 3)
	check(t, "Head", empty.Head(1), -1)
	check(t, "Head", noLayout.Head(1), -1)
	for at := range 25 {
		check(t, "Peek", noLayout.Cells.Peek(at), 0, at)
	}
}

// P8.2: steps are of the cells that the world has, and so are seen by whoever looks there, and see what is laid there.
func TestStepsAreOfTheWorldsCells(t *testing.T) {
	w := fresh(t, small)
	w.Cells.Store(16, 5)
	w.Cells.Store(17, 6)
	w.Cells.Store(23, 7)
	check(t, "Next", w.Next(16), 5)
	check(t, "Word", w.Word(0), 6)
	check(t, "Ann", w.Ann(0), 6)
	check(t, "Link", w.Link(16, 5, 50), true)
	check(t, "Turn", w.Turn(0, 6, 60), true)
	w.Say(0, 70)
	checkCells(t, w, 9, map[int]uint64{16: 50, 17: 60, 23: 71})
}

// plain is what a world is to one thread: words of nodes, of operations and of threads, without more.
type plain struct {
	nodes, ops, anns map[int]uint64
	steps            int
}

// words are those of all things of the layout tiny, by their cells.
func (p *plain) words() map[int]uint64 {
	words := map[int]uint64{4: p.ops[0], 5: p.anns[0]}
	for node := range 4 {
		words[node] = p.nodes[node]
	}
	return words
}

// lay lays a word in place of an old one, if that is asked for, where there are so many things.
func (p *plain) lay(things map[int]uint64, many, at int, old *uint64, word uint64) bool {
	if at < 0 || at >= many {
		return false
	}
	p.steps++
	if old != nil && things[at] != *old {
		return false
	}
	things[at] = word
	return true
}

// stepBoth does the n-th thing of all that the model knows to both, and holds what they tell against each other; it tells how many things there are.
func stepBoth(t *testing.T, w *world.World, p *plain, n int) int {
	t.Helper()
	const places, words, kinds = 3, 2, 7
	at, old, word, kind := []int{-1, 0, 3}[n%places], uint64(n/places%words), uint64(n/places/words%words), n/places/words/words
	op := int(word) - 1
	switch kind {
	case 0:
		check(t, "Next", w.Next(at), p.nodes[at], at)
		p.lay(p.nodes, 4, at, nil, p.nodes[at])
	case 1:
		check(t, "Link", w.Link(at, old, word), p.lay(p.nodes, 4, at, &old, word), at, old, word)
	case 2:
		w.Set(at, word)
		p.lay(p.nodes, 4, at, nil, word)
	case 3:
		check(t, "Word", w.Word(at), p.ops[at], at)
		p.lay(p.ops, 1, at, nil, p.ops[at])
	case 4:
		check(t, "Turn", w.Turn(at, old, word), p.lay(p.ops, 1, at, &old, word), at, old, word)
	case 5:
		check(t, "Ann", w.Ann(at), int(p.anns[at])-1, at)
		p.lay(p.anns, 1, at, nil, p.anns[at])
	case 6:
		w.Say(at, op)
		p.lay(p.anns, 1, at, nil, word)
	}
	return places * words * words * kinds
}

func newPlain() *plain {
	return &plain{nodes: map[int]uint64{}, ops: map[int]uint64{}, anns: map[int]uint64{}}
}

// P8.2, P8.4: after all sequences of two things that may be done with a few nodes, operations and threads, and ones that there aren't, all is as it is to be.
func TestAllShortSequences(t *testing.T) {
	things := stepBoth(t, fresh(t, tiny), newPlain(), 0)
	for n := range things * things {
		w, p := fresh(t, tiny), newPlain()
		stepBoth(t, w, p, n%things)
		stepBoth(t, w, p, n/things)
		checkCells(t, w, p.steps, p.words())
		if t.Failed() {
			t.Fatalf("in sequence %d of %d", n, things*things)
		}
	}
}

// P8.2, P8.4: and after each thing of a long one.
func TestLongSequence(t *testing.T) {
	w, p := fresh(t, tiny), newPlain()
	things, n := 1, uint64(1)
	for range 20000 {
		n = n*6364136223846793005 + 1442695040888963407
		things = stepBoth(t, w, p, int(n>>33)%things)
		checkCells(t, w, p.steps, p.words())
		if t.Failed() {
			t.FailNow()
		}
	}
	checkNewBook(t, w)
}

// P8.4: of Links, and of Turns, of the same old word that threads try at once one is done, and its word stands there; each was a step.
func TestOneOfSeveral(t *testing.T) {
	c := greatest
	w := fresh(t, c)
	links, turns := make([]atomic.Int64, nodes(c)), make([]atomic.Int64, ops(c))
	together(c.Threads, func(thread int) {
		mine := uint64(thread + 1)
		for node := range links {
			if w.Link(node, 0, mine) {
				links[node].Add(int64(mine) + 100)
			}
		}
		for op := range turns {
			if w.Turn(op, 0, mine) {
				turns[op].Add(int64(mine) + 100)
			}
		}
	})
	for node := range links {
		check(t, "who linked", links[node].Load(), int64(w.Cells.Peek(node))+100, node)
	}
	for op := range turns {
		check(t, "who turned", turns[op].Load(), int64(w.Cells.Peek(nodes(c)+op))+100, op)
	}
	check(t, "Steps", w.Cells.Steps(), c.Threads*(nodes(c)+ops(c)))
}

// P8.4: threads that announce, and walk about in their own nodes and operations, are not in each other's way, and all their steps are counted.
func TestThreadsApart(t *testing.T) {
	const many = 500
	c := greatest
	w := fresh(t, c)
	together(c.Threads, func(thread int) {
		node, op := 100+thread, 10*thread
		for n := range many {
			word := uint64(n)
			w.Say(thread, n)
			w.Set(node, word)
			if w.Ann(thread) != n || w.Next(node) != word || !w.Link(node, word, 1) || w.Word(op) != word || !w.Turn(op, word, word+1) || w.Head(1) != 40 {
				t.Errorf("thread %d, at %d", thread, n)
			}
		}
		w.Say(thread, -1)
	})
	words := map[int]uint64{}
	for thread := range c.Threads {
		words[100+thread] = 1
		words[nodes(c)+10*thread] = many
	}
	checkCells(t, w, c.Threads*(7*many+1), words)
}

// R4: a world has nothing in common with other ones, made earlier or later, of the same layout or another one.
func TestWorldsApart(t *testing.T) {
	a, b := fresh(t, small), fresh(t, small)
	a.Set(1, 5)
	a.Say(1, 2)
	a.Turn(3, 0, 4)
	if _, e := a.Book.Begin(0, api.Call{Kind: api.Get}); e != api.OK {
		t.Error(e)
	}
	checkCells(t, b, 0, nil)
	checkNewBook(t, b)
	b.Set(1, 6)
	checkCells(t, a, 3, map[int]uint64{1: 5, 20: 4, 24: 3})
	check(t, "Calls", a.Book.Calls(0), 1)
	checkCells(t, fresh(t, small), 0, nil)
	checkCells(t, fresh(t, tiny), 0, nil)
	checkNewBook(t, fresh(t, small))
}
