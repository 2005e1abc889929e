package layout_test

import (
	"math"
	"testing"

	"corrie/api"
	"corrie/layout"
)

// small is the layout of the chapter's examples: 17 nodes, 6 operations, 25 cells.
var small = api.Conf{Threads: 2, Buckets: 4, Inserts: 2, Fuel: 5, Calls: 3}

// greatest is the greatest layout that may be: 4161 nodes, 2048 operations, 6217 cells.
var greatest = api.Conf{Threads: 8, Buckets: 64, Inserts: 256, Fuel: 65536, Calls: 256}

// far are numbers that no layout has anything of: far off, and those that are within only where they are cut short, or where a product or a sum of them wraps round.
var far = []int{
	math.MinInt, math.MinInt + 1, math.MinInt + 5, -1 << 62, -1<<62 + 1, -1 << 61, -1<<32 - 1, -1 << 32, -1<<32 + 1, -1 << 31, -65536, -4096, -256, -64, -17, -8, -6, -5, -4, -3, -2, -1,
	8192, 65536, 1<<31 - 1, 1 << 31, 1<<32 - 1, 1 << 32, 1<<32 + 1, 1 << 61, 1<<61 + 1, 1 << 62, 1<<62 + 1, math.MaxInt - 16, math.MaxInt - 4, math.MaxInt - 1, math.MaxInt,
}

// layouts are some that may be: of all threads and buckets, with few calls, and some with many.
func layouts() []api.Conf {
	var all []api.Conf
	for threads := 1; threads <= 8; threads++ {
		for buckets := 1; buckets <= 64; buckets *= 2 {
			for _, calls := range []int{1, 2, 3, 7, 64, 255, 256} {
				all = append(all, api.Conf{Threads: threads, Buckets: buckets, Inserts: calls / 2, Fuel: 100 * calls, Calls: calls})
			}
		}
	}
	return append(all, small, greatest)
}

// wrongLayouts are those that may not be: with one field that may not be, with all, and with numbers of which the counts would wrap round to fine ones.
func wrongLayouts() []api.Conf {
	wrong := []api.Conf{
		{},
		{Threads: -2, Buckets: 4, Calls: -3},
		{Threads: 1 << 32, Buckets: 4, Calls: 1 << 32},
		{Threads: 1<<32 + 1, Buckets: 4, Calls: 1<<32 + 1},
		{Threads: 2, Buckets: 4, Calls: math.MaxInt},
		{Threads: 2, Buckets: 4, Calls: math.MinInt},
		{Threads: -1, Buckets: -1, Inserts: -1, Fuel: -1, Calls: -1},
		{Threads: math.MaxInt, Buckets: math.MaxInt, Inserts: math.MaxInt, Fuel: math.MaxInt, Calls: math.MaxInt},
		{Threads: math.MinInt, Buckets: math.MinInt, Inserts: math.MinInt, Fuel: math.MinInt, Calls: math.MinInt},
	}
	for _, c := range []api.Conf{small, greatest, {Threads: 1, Buckets: 1, Calls: 1}} {
		for _, set := range []func(c *api.Conf){
			func(c *api.Conf) { c.Threads = 0 },
			func(c *api.Conf) { c.Threads = -1 },
			func(c *api.Conf) { c.Threads = 9 },
			func(c *api.Conf) { c.Buckets = 0 },
			func(c *api.Conf) { c.Buckets = 3 },
			func(c *api.Conf) { c.Buckets = 128 },
			func(c *api.Conf) { c.Buckets = -4 },
			func(c *api.Conf) { c.Inserts = -1 },
			func(c *api.Conf) { c.Inserts = 257 },
			func(c *api.Conf) { c.Fuel = -1 },
			func(c *api.Conf) { c.Fuel = 65537 },
			func(c *api.Conf) { c.Calls = 0 },
			func(c *api.Conf) { c.Calls = -1 },
			func(c *api.Conf) { c.Calls = 257 },
		} {
			d := c
			set(&d)
			wrong = append(wrong, d)
		}
	}
	return wrong
}

// one is a function of a single number, with its name and how many things it knows of a layout that may be.
type one struct {
	name string
	ask  func(c api.Conf, n int) int
	many func(c api.Conf) int
}

func ones() []one {
	return []one{
		{"Next", layout.Next, nodes},
		{"Word", layout.Word, ops},
		{"Ann", layout.Ann, func(c api.Conf) int { return c.Threads }},
		{"Head", layout.Head, func(c api.Conf) int { return c.Buckets }},
		{"Thread", layout.Thread, ops},
	}
}

// two is a function of a thread and a number, with its name and how many things it knows of each thread.
type two struct {
	name string
	ask  func(c api.Conf, thread, n int) int
	many func(c api.Conf) int
}

func twos() []two {
	return []two{
		{"Node", layout.Node, func(c api.Conf) int { return c.Calls + c.Calls }},
		{"Op", layout.Op, func(c api.Conf) int { return c.Calls }},
	}
}

// nodes and ops are how many a layout that may be has, by chapter 4.
func nodes(c api.Conf) int {
	return 1 + c.Buckets + 2*c.Threads*c.Calls
}

func ops(c api.Conf) int {
	return c.Threads * c.Calls
}

// check holds what was told against what is asked.
func check(t *testing.T, name string, c api.Conf, got, want int, of ...int) {
	t.Helper()
	if got != want {
		t.Errorf("%s of %+v and %v is %d, not %d", name, c, of, got, want)
	}
}

// P5.1, P5.2: places, nodes, operations and threads by the chapter's formulas, written out.
func TestNamedThings(t *testing.T) {
	least := api.Conf{Threads: 1, Buckets: 1, Calls: 1}
	for _, x := range []struct {
		c    api.Conf
		n    int
		want [5]int // Next, Word, Ann, Head, Thread
	}{
		{small, -1, [5]int{-1, -1, -1, -1, -1}},
		{small, 0, [5]int{0, 17, 23, 1, 0}},
		{small, 1, [5]int{1, 18, 24, 2, 0}},
		{small, 2, [5]int{2, 19, -1, 3, 0}},
		{small, 3, [5]int{3, 20, -1, 4, 1}},
		{small, 4, [5]int{4, 21, -1, -1, 1}},
		{small, 5, [5]int{5, 22, -1, -1, 1}},
		{small, 6, [5]int{6, -1, -1, -1, -1}},
		{small, 16, [5]int{16, -1, -1, -1, -1}},
		{small, 17, [5]int{-1, -1, -1, -1, -1}},
		{small, 25, [5]int{-1, -1, -1, -1, -1}},
		{least, -1, [5]int{-1, -1, -1, -1, -1}},
		{least, 0, [5]int{0, 4, 5, 1, 0}},
		{least, 1, [5]int{1, -1, -1, -1, -1}},
		{least, 3, [5]int{3, -1, -1, -1, -1}},
		{least, 4, [5]int{-1, -1, -1, -1, -1}},
		{greatest, 0, [5]int{0, 4161, 6209, 1, 0}},
		{greatest, 7, [5]int{7, 4168, 6216, 8, 0}},
		{greatest, 8, [5]int{8, 4169, -1, 9, 0}},
		{greatest, 63, [5]int{63, 4224, -1, 64, 0}},
		{greatest, 64, [5]int{64, 4225, -1, -1, 0}},
		{greatest, 255, [5]int{255, 4416, -1, -1, 0}},
		{greatest, 256, [5]int{256, 4417, -1, -1, 1}},
		{greatest, 2047, [5]int{2047, 6208, -1, -1, 7}},
		{greatest, 2048, [5]int{2048, -1, -1, -1, -1}},
		{greatest, 4160, [5]int{4160, -1, -1, -1, -1}},
		{greatest, 4161, [5]int{-1, -1, -1, -1, -1}},
	} {
		for i, f := range ones() {
			check(t, f.name, x.c, f.ask(x.c, x.n), x.want[i], x.n)
		}
	}
}

// P5.2: threads' nodes and operations by the chapter's formulas, written out.
func TestNamedThingsOfThreads(t *testing.T) {
	for _, x := range []struct {
		c                api.Conf
		thread, n        int
		wantNode, wantOp int
	}{
		{small, 0, 0, 5, 0},
		{small, 0, 2, 7, 2},
		{small, 0, 3, 8, -1},
		{small, 0, 5, 10, -1},
		{small, 0, 6, -1, -1},
		{small, 1, -1, -1, -1},
		{small, 1, 0, 11, 3},
		{small, 1, 2, 13, 5},
		{small, 1, 3, 14, -1},
		{small, 1, 5, 16, -1},
		{small, 1, 6, -1, -1},
		{small, 2, 0, -1, -1},
		{small, 2, -1, -1, -1},
		{small, -1, 0, -1, -1},
		{small, -1, 6, -1, -1},
		{greatest, 0, 0, 65, 0},
		{greatest, 0, 255, 320, 255},
		{greatest, 0, 256, 321, -1},
		{greatest, 7, 0, 3649, 1792},
		{greatest, 7, 255, 3904, 2047},
		{greatest, 7, 511, 4160, -1},
		{greatest, 7, 512, -1, -1},
		{greatest, 8, 0, -1, -1},
	} {
		check(t, "Node", x.c, layout.Node(x.c, x.thread, x.n), x.wantNode, x.thread, x.n)
		check(t, "Op", x.c, layout.Op(x.c, x.thread, x.n), x.wantOp, x.thread, x.n)
	}
}

// P5.1: how many cells there are.
func TestLenOfNamedLayouts(t *testing.T) {
	for _, x := range []struct {
		c    api.Conf
		want int
	}{
		{small, 25},
		{greatest, 6217},
		{api.Conf{Threads: 1, Buckets: 1, Calls: 1}, 6},
		{api.Conf{Threads: 8, Buckets: 1, Calls: 1}, 34},
		{api.Conf{Threads: 1, Buckets: 64, Calls: 256}, 834},
	} {
		check(t, "Len", x.c, layout.Len(x.c), x.want)
	}
}

// P5.1: cells are counted in turn: nodes, then operations, then threads, and there is none behind them.
func TestCellsInTurn(t *testing.T) {
	for _, c := range layouts() {
		next := 0
		for _, f := range ones()[:3] {
			for n := range f.many(c) {
				check(t, f.name, c, f.ask(c, n), next, n)
				next++
			}
		}
		check(t, "Len", c, layout.Len(c), next)
	}
}

// P5.2: nodes are counted in turn: none, then the buckets' heads, then each thread's; and so are operations, which tell their thread.
func TestNodesAndOperationsInTurn(t *testing.T) {
	for _, c := range layouts() {
		next := 1
		for bucket := range c.Buckets {
			check(t, "Head", c, layout.Head(c, bucket), next, bucket)
			next++
		}
		firsts := [2]int{next, 0}
		for i, f := range twos() {
			next = firsts[i]
			for thread := range c.Threads {
				for n := range f.many(c) {
					check(t, f.name, c, f.ask(c, thread, n), next, thread, n)
					next++
				}
			}
			check(t, "how many "+f.name, c, next, [2]int{nodes(c), ops(c)}[i])
		}
		next = 0
		for thread := range c.Threads {
			for range c.Calls {
				check(t, "Thread", c, layout.Thread(c, next), thread, next)
				next++
			}
		}
	}
}

// P5.1, P5.2: where there is no such node, operation, thread, bucket, or n, -1 is told.
func TestThingsThatThereAreNot(t *testing.T) {
	for _, c := range layouts() {
		for _, f := range ones() {
			for _, n := range append([]int{f.many(c), f.many(c) + 1, 2 * f.many(c)}, far...) {
				check(t, f.name, c, f.ask(c, n), -1, n)
			}
		}
		for _, f := range twos() {
			for _, n := range append([]int{f.many(c), f.many(c) + 1, 2 * f.many(c)}, far...) {
				for thread := range c.Threads {
					check(t, f.name, c, f.ask(c, thread, n), -1, thread, n)
				}
			}
			for _, thread := range append([]int{c.Threads, c.Threads + 1}, far...) {
				for _, n := range []int{0, 1, f.many(c) - 1, f.many(c), -f.many(c), -1} {
					check(t, f.name, c, f.ask(c, thread, n), -1, thread, n)
				}
			}
		}
	}
}

// P5.2: a thread that there isn't has nothing, even if its place would be one that there is, or would come to be one by wrapping round.
func TestThreadsThatWouldBeWithin(t *testing.T) {
	for _, f := range twos() {
		many := f.many(small)
		for _, x := range [][2]int{{-1, many}, {-1, many + 1}, {-1, 2*many - 1}, {2, -1}, {2, -many}, {1, -1}, {0, many}, {-2, 2 * many}, {math.MaxInt, many}, {1 << 62, 1}, {math.MinInt, many}} {
			check(t, f.name, small, f.ask(small, x[0], x[1]), -1, x[0], x[1])
		}
		for _, n := range far {
			for _, thread := range far {
				check(t, f.name, small, f.ask(small, thread, n), -1, thread, n)
			}
		}
	}
	// Of two calls each a product of thread and 4 wraps round to 0 for this thread.
	c := api.Conf{Threads: 2, Buckets: 4, Calls: 2}
	check(t, "Node", c, layout.Node(c, 1<<62, 0), -1, 1<<62, 0)
	check(t, "Op", c, layout.Op(c, math.MinInt, 0), -1, math.MinInt, 0)
}

// P5.2: of a layout that may not be all are -1, but Len is 0.
func TestLayoutsThatMayNotBe(t *testing.T) {
	numbers := append([]int{0, 1, 2, 3, 4, 5, 6, 16, 17, 64, 255, 256, 512}, far...)
	for _, c := range wrongLayouts() {
		check(t, "Len", c, layout.Len(c), 0)
		for _, n := range numbers {
			for _, f := range ones() {
				check(t, f.name, c, f.ask(c, n), -1, n)
			}
			for _, f := range twos() {
				check(t, f.name, c, f.ask(c, 0, n), -1, 0, n)
				check(t, f.name, c, f.ask(c, 1, n), -1, 1, n)
				check(t, f.name, c, f.ask(c, n, 0), -1, n, 0)
				check(t, f.name, c, f.ask(c, n, n), -1, n, n)
			}
		}
	}
}

// P5.3: each cell is one thing's, and one only.
func TestEachCellIsOneThings(t *testing.T) {
	for _, c := range layouts() {
		things := make([]int, layout.Len(c))
		for _, f := range ones()[:3] {
			for n := range f.many(c) {
				at := f.ask(c, n)
				if at < 0 || at >= len(things) {
					t.Fatalf("%s of %+v and %d is %d, which is no cell of %d", f.name, c, n, at, len(things))
				}
				things[at]++
			}
		}
		for at, many := range things {
			check(t, "how many things of cell", c, many, 1, at)
		}
	}
}

// P5.3: no two threads have a node in common, none has a head or node 0, and each node has a cell.
func TestNoNodeInCommon(t *testing.T) {
	for _, c := range layouts() {
		whose := map[int]string{0: "none"}
		claim := func(node int, who string) {
			if other, taken := whose[node]; taken {
				t.Errorf("%+v: the node %d is of %s and of %s", c, node, other, who)
			}
			if layout.Next(c, node) == -1 {
				t.Errorf("%+v: the node %d of %s has no cell", c, node, who)
			}
			whose[node] = who
		}
		for bucket := range c.Buckets {
			claim(layout.Head(c, bucket), "a bucket")
		}
		for thread := range c.Threads {
			for n := range 2 * c.Calls {
				claim(layout.Node(c, thread, n), "a thread")
			}
		}
		check(t, "how many nodes", c, len(whose), nodes(c))
	}
}

// P5.3: no two threads have an operation in common; each has a cell, and is told back by its thread.
func TestNoOperationInCommon(t *testing.T) {
	for _, c := range layouts() {
		seen := map[int]bool{}
		for thread := range c.Threads {
			for n := range c.Calls {
				op := layout.Op(c, thread, n)
				if seen[op] || layout.Word(c, op) == -1 {
					t.Errorf("%+v: the operation %d of thread %d was another one's, or has no cell", c, op, thread)
				}
				seen[op] = true
				check(t, "Thread", c, layout.Thread(c, op), thread, op)
				check(t, "Op of Thread", c, layout.Op(c, layout.Thread(c, op), n), op, op)
			}
		}
		check(t, "how many operations", c, len(seen), ops(c))
	}
}

// P5.1, P5.2: neither Inserts nor Fuel moves anything, as long as the layout may be.
func TestInsertsAndFuelMoveNothing(t *testing.T) {
	c := small
	for _, inserts := range []int{0, 1, 256} {
		for _, fuel := range []int{0, 1, 65536} {
			c.Inserts, c.Fuel = inserts, fuel
			check(t, "Len", c, layout.Len(c), 25)
			for n := -1; n <= 18; n++ {
				for _, f := range ones() {
					check(t, f.name, c, f.ask(c, n), f.ask(small, n), n)
				}
				for _, f := range twos() {
					check(t, f.name, c, f.ask(c, 1, n), f.ask(small, 1, n), 1, n)
				}
			}
		}
	}
}

// R4: the same thing is told the same each time, whatever was asked in between.
func TestThingsStay(t *testing.T) {
	for range 2 {
		check(t, "Ann", small, layout.Ann(small, 1), 24, 1)
		check(t, "Ann", greatest, layout.Ann(greatest, 1), 6210, 1)
		check(t, "Len", api.Conf{}, layout.Len(api.Conf{}), 0)
		check(t, "Node", small, layout.Node(small, 1, 0), 11, 1, 0)
	}
}
