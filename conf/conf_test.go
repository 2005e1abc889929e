package conf_test

import (
	"math"
	"testing"

	"corrie/api"
	"corrie/conf"
)

// field is one of a layout's: its name, how it is set, and numbers that it may be, and may not be.
type field struct {
	name       string
	set        func(c *api.Conf, n int)
	may, mayNo []int
}

// far are numbers that no field may be: far off, and those that are within only where they are cut short.
var far = []int{math.MinInt, math.MinInt + 1, -1<<32 + 1, -1 << 31, -256, -64, -8, -2, -1, 1<<31 - 1, 1 << 31, 1 << 32, 1<<32 + 1, 1<<32 + 4, 1<<62 + 1, math.MaxInt - 1, math.MaxInt}

// fields are all of a layout's, with the edges that the chapter names.
func fields() [5]field {
	return [5]field{
		{"Threads", func(c *api.Conf, n int) { c.Threads = n }, []int{1, 2, 7, 8}, []int{0, 9, 10, 16, 64, 256, 257}},
		{"Buckets", func(c *api.Conf, n int) { c.Buckets = n }, []int{1, 2, 4, 8, 16, 32, 64}, []int{0, 3, 5, 7, 9, 12, 31, 33, 63, 65, 96, 128, 256}},
		{"Inserts", func(c *api.Conf, n int) { c.Inserts = n }, []int{0, 1, 255, 256}, []int{257, 258, 512, 65536}},
		{"Fuel", func(c *api.Conf, n int) { c.Fuel = n }, []int{0, 1, 65535, 65536}, []int{65537, 65538, 131072}},
		{"Calls", func(c *api.Conf, n int) { c.Calls = n }, []int{1, 2, 255, 256}, []int{0, 257, 258, 512, 65536}},
	}
}

// layouts are some that may be: small, of the middle, the least and the greatest one.
var layouts = [6]api.Conf{
	{Threads: 2, Buckets: 4, Inserts: 0, Fuel: 0, Calls: 3},
	{Threads: 1, Buckets: 1, Inserts: 0, Fuel: 0, Calls: 1},
	{Threads: 8, Buckets: 64, Inserts: 256, Fuel: 65536, Calls: 256},
	{Threads: 3, Buckets: 16, Inserts: 20, Fuel: 1000, Calls: 7},
	{Threads: 1, Buckets: 64, Inserts: 256, Fuel: 0, Calls: 1},
	{Threads: 8, Buckets: 1, Inserts: 0, Fuel: 65536, Calls: 256},
}

// checkMayNot asks all three functions of a layout that may not be.
func checkMayNot(t *testing.T, c api.Conf) {
	t.Helper()
	if got := conf.May(c); got != api.ErrArg {
		t.Errorf("May(%+v) = %d, not ErrArg", c, got)
	}
	if got := conf.Ops(c); got != 0 {
		t.Errorf("Ops(%+v) = %d, though it may not be", c, got)
	}
	if got := conf.Nodes(c); got != 0 {
		t.Errorf("Nodes(%+v) = %d, though it may not be", c, got)
	}
}

// checkMay asks all three functions of a layout that may be.
func checkMay(t *testing.T, c api.Conf, ops, nodes int) {
	t.Helper()
	if got := conf.May(c); got != api.OK {
		t.Errorf("May(%+v) = %d, not OK", c, got)
	}
	if got := conf.Ops(c); got != ops {
		t.Errorf("Ops(%+v) = %d, not %d", c, got, ops)
	}
	if got := conf.Nodes(c); got != nodes {
		t.Errorf("Nodes(%+v) = %d, not %d", c, got, nodes)
	}
}

// P4.1: each field may be from its least number to its greatest one, and is asked alone.
func TestMayOfEachField(t *testing.T) {
	for _, f := range fields() {
		for _, c := range layouts {
			for _, n := range f.may {
				f.set(&c, n)
				if got := conf.May(c); got != api.OK {
					t.Errorf("%s %d: May(%+v) = %d, not OK", f.name, n, c, got)
				}
			}
		}
	}
}

// P4.1: of small numbers just those within the bounds may be.
func TestMayOfSmallNumbers(t *testing.T) {
	powers := map[int]bool{1: true, 2: true, 4: true, 8: true, 16: true, 32: true, 64: true}
	may := [5]func(n int) bool{
		func(n int) bool { return n >= 1 && n <= 8 },
		func(n int) bool { return powers[n] },
		func(n int) bool { return n >= 0 && n <= 256 },
		func(n int) bool { return n >= 0 && n <= 65536 },
		func(n int) bool { return n >= 1 && n <= 256 },
	}
	for i, f := range fields() {
		for n := -300; n <= 66000; n++ {
			c := layouts[0]
			f.set(&c, n)
			if got := conf.May(c) == api.OK; got != may[i](n) {
				t.Errorf("%s %d: whether it may be is told as %t", f.name, n, got)
			}
		}
	}
}

// P4.1: the greatest numbers are the limits of package api.
func TestMayAtTheLimits(t *testing.T) {
	limits := [5]int{api.MaxThreads, api.MaxBuckets, api.MaxInserts, api.MaxFuel, api.MaxCalls}
	for i, f := range fields() {
		c := layouts[0]
		f.set(&c, limits[i])
		if got := conf.May(c); got != api.OK {
			t.Errorf("%s at its limit: May = %d, not OK", f.name, got)
		}
		f.set(&c, limits[i]+1)
		checkMayNot(t, c)
	}
}

// P4.2: layouts that may be, how many operations they have, and how many nodes.
func TestCountsOfLayoutsThatMayBe(t *testing.T) {
	for _, l := range []struct {
		c          api.Conf
		ops, nodes int
	}{
		{layouts[0], 6, 17},
		{layouts[1], 1, 4},
		{layouts[2], 2048, 4161},
		{layouts[3], 21, 59},
		{layouts[4], 1, 67},
		{layouts[5], 2048, 4098},
		{api.Conf{Threads: 1, Buckets: 2, Inserts: 5, Fuel: 9, Calls: 256}, 256, 515},
		{api.Conf{Threads: 8, Buckets: 32, Inserts: 1, Fuel: 1, Calls: 1}, 8, 49},
		{api.Conf{Threads: 5, Buckets: 8, Inserts: 256, Fuel: 65536, Calls: 10}, 50, 109},
	} {
		checkMay(t, l.c, l.ops, l.nodes)
	}
}

// P4.2: whatever the layout, the threads have twice as many nodes as operations; neither Inserts nor Fuel changes a count.
func TestCountsOfAllLayouts(t *testing.T) {
	all := fields()
	for threads := 1; threads <= 8; threads++ {
		for _, buckets := range all[1].may {
			for calls := 1; calls <= 256; calls++ {
				ops := 0
				for range threads {
					ops += calls
				}
				c := api.Conf{Threads: threads, Buckets: buckets, Inserts: calls, Fuel: 3 * calls, Calls: calls}
				checkMay(t, c, ops, 1+buckets+ops+ops)
				c.Inserts, c.Fuel = 256-calls, 65536-calls
				checkMay(t, c, ops, 1+buckets+ops+ops)
			}
		}
	}
}

// P4.3: with one thing that may not be, a layout may not be, and has nothing.
func TestOneThingThatMayNotBe(t *testing.T) {
	for _, f := range fields() {
		for _, n := range append(f.mayNo, far...) {
			for _, c := range layouts {
				f.set(&c, n)
				checkMayNot(t, c)
			}
		}
	}
}

// P4.3: several things that may not be don't make up for each other: of all sets of fields, just the empty one leaves a layout that may be.
func TestSeveralThingsThatMayNotBe(t *testing.T) {
	all := fields()
	for set := 1; set < 1<<len(all); set++ {
		for turn := range 30 {
			c := layouts[turn%len(layouts)]
			for i, f := range all {
				wrong := append(f.mayNo, far...)
				if set>>i&1 == 1 {
					f.set(&c, wrong[(turn+i)%len(wrong)])
				}
			}
			checkMayNot(t, c)
		}
	}
}

// P4.3: a layout of which nothing was said may not be: it has no thread.
func TestZeroLayoutMayNotBe(t *testing.T) {
	checkMayNot(t, api.Conf{})
}

// P4.3: numbers of which the product wraps round to one that would be fine may not be.
func TestProductsThatWrapRound(t *testing.T) {
	for _, c := range []api.Conf{
		{Threads: 1 << 32, Buckets: 4, Calls: 1 << 32},
		{Threads: -2, Buckets: 4, Calls: -3},
		{Threads: 1<<32 + 1, Buckets: 4, Calls: 1<<32 + 1},
		{Threads: math.MaxInt, Buckets: 4, Calls: math.MaxInt},
		{Threads: math.MinInt, Buckets: 4, Calls: 2},
	} {
		checkMayNot(t, c)
	}
}

// R4: the same layout is told the same each time, whatever was asked in between.
func TestCountsStay(t *testing.T) {
	checkMay(t, layouts[0], 6, 17)
	checkMay(t, layouts[2], 2048, 4161)
	checkMayNot(t, api.Conf{Threads: 9, Buckets: 4, Calls: 3})
	checkMay(t, layouts[0], 6, 17)
}
