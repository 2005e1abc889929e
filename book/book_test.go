package book_test

import (
	"math"
	"sync"
	"testing"

	"corrie/api"
	"corrie/book"
)

// small is a layout of 6 operations and 17 nodes, of which those from 5 on are threads'.
var small = api.Conf{Threads: 2, Buckets: 4, Inserts: 1, Fuel: 5, Calls: 3}

// greatest is the greatest layout that may be: 2048 operations and 4161 nodes.
var greatest = api.Conf{Threads: 8, Buckets: 64, Inserts: 256, Fuel: 65536, Calls: 256}

// layouts are some that may be: without inserts, with fewer than calls, with as many, and with more.
var layouts = [6]api.Conf{
	small,
	{Threads: 1, Buckets: 1, Calls: 1},
	{Threads: 2, Buckets: 2, Inserts: 2, Calls: 2},
	{Threads: 3, Buckets: 16, Inserts: 256, Fuel: 65536, Calls: 4},
	{Threads: 8, Buckets: 64, Inserts: 3, Fuel: 1, Calls: 5},
	{Threads: 2, Buckets: 1, Calls: 2},
}

// far are numbers that no layout has anything of: far off, and those that are within only where they are cut short, or where a product or a sum of them wraps round.
var far = []int{
	math.MinInt, math.MinInt + 1, math.MinInt + 5, -1 << 62, -1<<32 - 1, -1 << 32, -1<<32 + 1, -1 << 31, -65536, -256, -17, -6, -5, -4, -3, -2, -1,
	8192, 65536, 1<<31 - 1, 1 << 31, 1<<32 - 1, 1 << 32, 1<<32 + 1, 1<<32 + 5, 1 << 61, 1 << 62, 1<<62 + 1, math.MaxInt - 1, math.MaxInt,
}

// wrongKinds are those that no call may be of.
var wrongKinds = []int{math.MinInt, -1<<32 + 1, -256, -4, -3, -2, -1, 0, 5, 6, 8, 255, 256, 257, 1<<32 + 1, 1<<32 + 4, math.MaxInt}

// check holds what was told against what is asked.
func check[T comparable](t *testing.T, name string, got, want T, of ...any) {
	t.Helper()
	if got != want {
		t.Errorf("%s of %+v is %+v, not %+v", name, of, got, want)
	}
}

// fresh is a new book of a layout that may be.
func fresh(t *testing.T, c api.Conf) *book.Book {
	t.Helper()
	b, e := book.New(c)
	if e != api.OK || b == nil {
		t.Fatalf("New of %+v is %v and %d", c, b, e)
	}
	return b
}

func begin(t *testing.T, b *book.Book, thread int, call api.Call, op int, e api.Errno) {
	t.Helper()
	gotOp, gotE := b.Begin(thread, call)
	check(t, "Begin", gotOp, op, thread, call)
	check(t, "the error of Begin", gotE, e, thread, call)
}

func makeNode(t *testing.T, b *book.Book, thread, op, node int, e api.Errno) {
	t.Helper()
	gotNode, gotE := b.Make(thread, op)
	check(t, "Make", gotNode, node, thread, op)
	check(t, "the error of Make", gotE, e, thread, op)
}

// model is what a book is, without more: its counts, and what was written down.
type model struct {
	c                    api.Conf
	calls, inserts, made [api.MaxThreads]int
	written              map[int]api.Call
	carried              map[int]int
}

func newModel(c api.Conf) *model {
	return &model{c: c, written: map[int]api.Call{}, carried: map[int]int{}}
}

func (m *model) begin(thread int, call api.Call) (int, api.Errno) {
	if thread < 0 || thread >= m.c.Threads || call.Kind < 1 || call.Kind > 4 {
		return 0, api.ErrArg
	}
	if m.calls[thread] == m.c.Calls {
		return 0, api.ErrRetired
	}
	op := thread*m.c.Calls + m.calls[thread]
	m.calls[thread]++
	if call.Kind == 1 {
		if m.inserts[thread] == m.c.Inserts {
			return 0, api.ErrFull
		}
		m.inserts[thread]++
	}
	m.written[op] = call
	return op, api.OK
}

func (m *model) makeNode(thread, op int) (int, api.Errno) {
	if _, written := m.written[op]; thread < 0 || thread >= m.c.Threads || !written {
		return 0, api.ErrArg
	}
	if m.made[thread] == m.c.Calls+m.c.Calls {
		return 0, api.ErrFull
	}
	node := 1 + m.c.Buckets + thread*(m.c.Calls+m.c.Calls) + m.made[thread]
	m.made[thread]++
	m.carried[node] = op
	return node, api.OK
}

// nodes and ops are how many there are, by chapter 4.
func (m *model) nodes() int {
	return 1 + m.c.Buckets + 2*m.ops()
}

func (m *model) ops() int {
	return m.c.Threads * m.c.Calls
}

// same asks a book of all that there may be, and of what is beside it, and holds that against the model.
func (m *model) same(t *testing.T, b *book.Book) {
	t.Helper()
	for op := -2; op < m.ops()+2; op++ {
		wantE := api.OK
		if _, written := m.written[op]; !written {
			wantE = api.ErrNone
		}
		call, e := b.Call(op)
		check(t, "Call", call, m.written[op], m.c, op)
		check(t, "the error of Call", e, wantE, m.c, op)
	}
	for node := -2; node < m.nodes()+2; node++ {
		op, made := m.carried[node]
		if !made {
			op = -1
		}
		check(t, "Carried", b.Carried(node), op, m.c, node)
		check(t, "Key", b.Key(node), m.written[op].Key, m.c, node)
	}
	for thread := -2; thread < m.c.Threads+2; thread++ {
		var calls, made int
		if 0 <= thread && thread < m.c.Threads {
			calls, made = m.calls[thread], m.made[thread]
		}
		check(t, "Calls", b.Calls(thread), calls, m.c, thread)
		check(t, "Made", b.Made(thread), made, m.c, thread)
	}
}

// P7.1: a new book has no operations, and no nodes, and nobody has done anything.
func TestNewBook(t *testing.T) {
	for _, c := range append(layouts[:], greatest, api.Conf{Threads: 8, Buckets: 1, Calls: 1}, api.Conf{Threads: 1, Buckets: 64, Inserts: 1, Calls: 256}) {
		newModel(c).same(t, fresh(t, c))
	}
}

// P7.1: of a layout that may not be there is no book, but the error.
func TestNewOfLayoutsThatMayNotBe(t *testing.T) {
	wrong := []api.Conf{{}, {Threads: -2, Buckets: 4, Calls: -3}, {Threads: 1 << 32, Buckets: 4, Calls: 1 << 32}, {Threads: -1, Buckets: -1, Inserts: -1, Fuel: -1, Calls: -1}}
	for _, set := range []func(c *api.Conf){
		func(c *api.Conf) { c.Threads = 0 },
		func(c *api.Conf) { c.Threads = -1 },
		func(c *api.Conf) { c.Threads = 9 },
		func(c *api.Conf) { c.Threads = math.MaxInt },
		func(c *api.Conf) { c.Buckets = 0 },
		func(c *api.Conf) { c.Buckets = 3 },
		func(c *api.Conf) { c.Buckets = 128 },
		func(c *api.Conf) { c.Inserts = -1 },
		func(c *api.Conf) { c.Inserts = 257 },
		func(c *api.Conf) { c.Fuel = -1 },
		func(c *api.Conf) { c.Fuel = 65537 },
		func(c *api.Conf) { c.Calls = 0 },
		func(c *api.Conf) { c.Calls = 257 },
		func(c *api.Conf) { c.Calls = math.MinInt },
	} {
		for _, c := range []api.Conf{small, greatest} {
			set(&c)
			wrong = append(wrong, c)
		}
	}
	for _, c := range wrong {
		b, e := book.New(c)
		check(t, "New", b, nil, c)
		check(t, "the error of New", e, api.ErrArg, c)
	}
}

// P7.2: the chapter's example: the insert that is refused is a call, too.
func TestInsertsAndCalls(t *testing.T) {
	b := fresh(t, api.Conf{Threads: 1, Buckets: 1, Inserts: 1, Calls: 2})
	begin(t, b, 0, api.Call{Kind: api.Insert, Key: 4, Val: 9}, 0, api.OK)
	begin(t, b, 0, api.Call{Kind: api.Insert, Key: 5, Val: 9}, 0, api.ErrFull)
	check(t, "Calls", b.Calls(0), 2)
	begin(t, b, 0, api.Call{Kind: api.Insert, Key: 6, Val: 9}, 0, api.ErrRetired)
	begin(t, b, 0, api.Call{Kind: api.Get, Key: 6}, 0, api.ErrRetired)
	check(t, "Calls", b.Calls(0), 2)
}

// P7.2: operations by the chapter's formula, written out, of all kinds of calls, by threads in any turn.
func TestNamedOperations(t *testing.T) {
	b := fresh(t, small)
	for i, x := range []struct{ thread, kind, op int }{{1, api.Get, 3}, {0, api.Scan, 0}, {1, api.Insert, 4}, {0, api.Insert, 1}, {0, api.Delete, 2}, {1, api.Delete, 5}} {
		begin(t, b, x.thread, api.Call{Kind: x.kind, Key: uint64(i)}, x.op, api.OK)
	}
	b = fresh(t, greatest)
	for n := range 256 {
		for thread, first := range []int{0, 256, 512, 768, 1024, 1280, 1536, 1792} {
			begin(t, b, thread, api.Call{Kind: 1 + (n+thread)%4}, first+n, api.OK)
		}
	}
}

// P7.2, R1: a thread that there isn't, and a kind that may not be, are refused, and nothing is counted.
func TestBeginOfWrongArguments(t *testing.T) {
	for _, c := range layouts {
		b, m := fresh(t, c), newModel(c)
		for _, kind := range []int{1, 2, 3, 4} {
			for _, thread := range append([]int{c.Threads, c.Threads + 1, 8, 9, 256}, far...) {
				begin(t, b, thread, api.Call{Kind: kind, Key: 1}, 0, api.ErrArg)
			}
		}
		for _, kind := range wrongKinds {
			for thread := -1; thread <= c.Threads; thread++ {
				begin(t, b, thread, api.Call{Kind: kind, Key: 1, Val: 2, Limit: 3}, 0, api.ErrArg)
			}
		}
		m.same(t, b)
	}
}

// P7.2: neither keys, values nor limits are asked for anything, and all of a call is told back.
func TestAnyCallOfTheKinds(t *testing.T) {
	words := []uint64{0, 1, 1 << 32, 1 << 63, math.MaxUint64}
	limits := []int{math.MinInt, -1, 0, 1, math.MaxInt}
	for _, key := range words {
		for _, val := range words {
			for _, limit := range limits {
				b := fresh(t, api.Conf{Threads: 1, Buckets: 1, Inserts: 1, Calls: 4})
				for n := range 4 {
					call := api.Call{Kind: n + 1, Key: key, Val: val, Limit: limit}
					begin(t, b, 0, call, n, api.OK)
					got, e := b.Call(n)
					check(t, "Call", got, call, n)
					check(t, "the error of Call", e, api.OK, n)
				}
			}
		}
	}
}

// P7.2, R1: of a thread without a call left nothing but a wrong argument is told ahead of that, whatever it has of inserts; nothing is changed.
func TestRetired(t *testing.T) {
	for _, inserts := range []int{0, 1, 2, 3} {
		c := api.Conf{Threads: 2, Buckets: 1, Inserts: inserts, Calls: 2}
		b, m := fresh(t, c), newModel(c)
		for range 2 {
			call := api.Call{Kind: api.Insert, Key: 7}
			op, e := m.begin(1, call)
			begin(t, b, 1, call, op, e)
		}
		for range 3 {
			for kind := api.Insert; kind <= api.Scan; kind++ {
				begin(t, b, 1, api.Call{Kind: kind, Key: 8}, 0, api.ErrRetired)
			}
			for _, kind := range wrongKinds {
				begin(t, b, 1, api.Call{Kind: kind, Key: 8}, 0, api.ErrArg)
			}
			m.same(t, b)
		}
		begin(t, b, 0, api.Call{Kind: api.Get}, 0, api.OK)
	}
}

// P7.2, P7.4: an insert that is one too many is counted as a call, and is written nowhere; calls of other kinds go on behind it, and are no inserts.
func TestFull(t *testing.T) {
	c := api.Conf{Threads: 2, Buckets: 4, Inserts: 2, Calls: 9}
	b := fresh(t, c)
	in, other := api.Call{Kind: api.Insert, Key: 3}, api.Call{Kind: api.Delete, Key: 5}
	for n, x := range []struct {
		call api.Call
		e    api.Errno
	}{{other, api.OK}, {in, api.OK}, {other, api.OK}, {in, api.OK}, {in, api.ErrFull}, {other, api.OK}, {in, api.ErrFull}, {in, api.ErrFull}, {other, api.OK}} {
		op := n + 9
		if x.e != api.OK {
			op = 0
		}
		begin(t, b, 1, x.call, op, x.e)
		check(t, "Calls", b.Calls(1), n+1, 1)
		got, e := b.Call(n + 9)
		if x.e != api.OK {
			check(t, "Call", got, api.Call{}, n)
			check(t, "the error of Call", e, api.ErrNone, n)
			makeNode(t, b, 1, n+9, 0, api.ErrArg)
		} else {
			check(t, "Call", got, x.call, n)
			makeNode(t, b, 0, n+9, 5+b.Made(0), api.OK)
		}
	}
	begin(t, b, 1, in, 0, api.ErrRetired)
	check(t, "Calls", b.Calls(0), 0, 0)
	begin(t, b, 0, in, 0, api.OK)
}

// P7.2: without inserts each insert is refused, and each is a call.
func TestNoInserts(t *testing.T) {
	b := fresh(t, api.Conf{Threads: 1, Buckets: 1, Inserts: 0, Calls: 256})
	for n := range 255 {
		begin(t, b, 0, api.Call{Kind: api.Insert}, 0, api.ErrFull)
		check(t, "Calls", b.Calls(0), n+1)
	}
	begin(t, b, 0, api.Call{Kind: api.Scan}, 255, api.OK)
	begin(t, b, 0, api.Call{Kind: api.Insert}, 0, api.ErrRetired)
}

// P7.3: nodes by the chapter's formula, written out, of operations of all threads.
func TestNamedNodes(t *testing.T) {
	b := fresh(t, small)
	begin(t, b, 1, api.Call{Kind: api.Insert, Key: 30}, 3, api.OK)
	begin(t, b, 1, api.Call{Kind: api.Get, Key: 40}, 4, api.OK)
	begin(t, b, 0, api.Call{Kind: api.Scan, Key: 10}, 0, api.OK)
	keys := map[int]uint64{3: 30, 4: 40, 0: 10}
	for _, x := range []struct{ thread, op, node int }{
		{1, 3, 11}, {0, 3, 5}, {0, 3, 6}, {1, 0, 12}, {0, 4, 7}, {1, 4, 13}, {1, 3, 14}, {0, 0, 8}, {0, 0, 9}, {0, 3, 10}, {1, 3, 15}, {1, 0, 16},
	} {
		check(t, "Carried", b.Carried(x.node), -1, x)
		check(t, "Key", b.Key(x.node), 0, x)
		makeNode(t, b, x.thread, x.op, x.node, api.OK)
		check(t, "Carried", b.Carried(x.node), x.op, x)
		check(t, "Key", b.Key(x.node), keys[x.op], x)
	}
	for thread := range 2 {
		check(t, "Made", b.Made(thread), 6, thread)
		makeNode(t, b, thread, 3, 0, api.ErrFull)
		check(t, "Made", b.Made(thread), 6, thread)
	}
}

// P7.3, R1: a thread that there isn't, and an operation that wasn't written down, are refused, ahead of all else, and nothing is counted.
func TestMakeOfWrongArguments(t *testing.T) {
	for _, c := range layouts {
		b, m := fresh(t, c), newModel(c)
		for op := range c.Calls {
			makeNode(t, b, 0, op, 0, api.ErrArg)
		}
		m.same(t, b)
		m.begin(0, api.Call{Kind: api.Get, Key: 6})
		begin(t, b, 0, api.Call{Kind: api.Get, Key: 6}, 0, api.OK)
		wrong := func() {
			for _, n := range append([]int{c.Threads, c.Threads + 1, 9, 256}, far...) {
				makeNode(t, b, n, 0, 0, api.ErrArg)
				makeNode(t, b, n, n, 0, api.ErrArg)
			}
			for _, op := range append([]int{1, c.Calls, m.ops() - 1, m.ops(), m.ops() + 1}, far...) {
				if op != 0 {
					makeNode(t, b, 0, op, 0, api.ErrArg)
				}
			}
			m.same(t, b)
		}
		wrong()
		for range 2 * c.Calls {
			node, e := m.makeNode(0, 0)
			makeNode(t, b, 0, 0, node, e)
		}
		makeNode(t, b, 0, 0, 0, api.ErrFull)
		wrong()
	}
}

// P7.3: how many nodes a thread may make hangs neither on its calls nor on its inserts, nor on what other threads made.
func TestAllNodes(t *testing.T) {
	b := fresh(t, greatest)
	begin(t, b, 7, api.Call{Kind: api.Delete, Key: 9}, 1792, api.OK)
	for thread := range 8 {
		for n := range 512 {
			makeNode(t, b, thread, 1792, 65+512*thread+n, api.OK)
			check(t, "Made", b.Made(thread), n+1, thread)
		}
		makeNode(t, b, thread, 1792, 0, api.ErrFull)
	}
	check(t, "Calls", b.Calls(0), 0)
	check(t, "Key", b.Key(65), 9)
	check(t, "Key", b.Key(4160), 9)
}

// P7.4: of things that there aren't: no call, no operation, no key, and no counts; node 0 and heads carry nothing.
func TestThingsThatThereAreNot(t *testing.T) {
	for _, c := range append(layouts[:], greatest) {
		b, m := fresh(t, c), newModel(c)
		for thread := range c.Threads {
			for range c.Calls {
				op, _ := b.Begin(thread, api.Call{Kind: api.Get, Key: 11})
				b.Make(thread, op)
				b.Make(thread, op)
			}
		}
		for _, n := range append([]int{m.nodes(), m.nodes() + 1, 2 * m.nodes()}, far...) {
			call, e := b.Call(n)
			check(t, "Call", call, api.Call{}, c, n)
			check(t, "the error of Call", e, api.ErrNone, c, n)
			check(t, "Carried", b.Carried(n), -1, c, n)
			check(t, "Key", b.Key(n), 0, c, n)
			check(t, "Calls", b.Calls(n), 0, c, n)
			check(t, "Made", b.Made(n), 0, c, n)
		}
		for node := 0; node <= c.Buckets; node++ {
			check(t, "Carried", b.Carried(node), -1, c, node)
			check(t, "Key", b.Key(node), 0, c, node)
		}
		_, e := b.Call(m.ops())
		check(t, "the error of Call", e, api.ErrNone, c, m.ops())
		for _, thread := range []int{c.Threads, 8, 9} {
			check(t, "Calls", b.Calls(thread), 0, c, thread)
			check(t, "Made", b.Made(thread), 0, c, thread)
		}
	}
}

// P7.4: of a book that is nil all is refused as a wrong argument, whatever is handed in, and there is nothing in it.
func TestNil(t *testing.T) {
	var b *book.Book
	for _, n := range append([]int{0, 1, 2, 5, 17}, far...) {
		for kind := -1; kind <= 5; kind++ {
			begin(t, b, n, api.Call{Kind: kind, Key: 3}, 0, api.ErrArg)
		}
		makeNode(t, b, n, 0, 0, api.ErrArg)
		makeNode(t, b, 0, n, 0, api.ErrArg)
		call, e := b.Call(n)
		check(t, "Call", call, api.Call{}, n)
		check(t, "the error of Call", e, api.ErrArg, n)
		check(t, "Carried", b.Carried(n), -1, n)
		check(t, "Key", b.Key(n), 0, n)
		check(t, "Calls", b.Calls(n), 0, n)
		check(t, "Made", b.Made(n), 0, n)
	}
}

// stepBoth does the n-th thing of all that are tried to both, and holds what they tell against each other; it tells how many things there are.
func stepBoth(t *testing.T, b *book.Book, m *model, n int, key uint64) int {
	t.Helper()
	threads, kinds, ops := m.c.Threads+1, 6, m.ops()+1
	begins := threads * kinds
	if n < begins {
		thread, call := n%threads, api.Call{Kind: n / threads, Key: key, Val: key + 1, Limit: n}
		op, e := m.begin(thread, call)
		begin(t, b, thread, call, op, e)
	} else {
		n -= begins
		thread, op := n%threads, n/threads
		node, e := m.makeNode(thread, op)
		makeNode(t, b, thread, op, node, e)
	}
	return begins + threads*ops
}

// P7.2 to P7.5: after each sequence of three things that may be asked of a book of two operations and four nodes all is as in the model.
func TestAllShortSequences(t *testing.T) {
	for _, c := range []api.Conf{{Threads: 2, Buckets: 1, Inserts: 1, Calls: 1}, {Threads: 1, Buckets: 1, Inserts: 1, Calls: 2}} {
		all := stepBoth(t, fresh(t, c), newModel(c), 0, 0)
		for n := range all * all * all {
			b, m := fresh(t, c), newModel(c)
			for i, thing := range []int{n % all, n / all % all, n / all / all} {
				stepBoth(t, b, m, thing, uint64(10+i))
			}
			m.same(t, b)
			if t.Failed() {
				t.Fatalf("in sequence %d of %d", n, all*all*all)
			}
		}
	}
}

// P7.5: and all along long sequences, until nobody has anything left: what was written down stays.
func TestLongSequences(t *testing.T) {
	for _, c := range layouts {
		for seed := range uint64(5) {
			b, m := fresh(t, c), newModel(c)
			all, n := 1, seed
			for range 400 {
				n = n*6364136223846793005 + 1442695040888963407
				all = stepBoth(t, b, m, int(n>>33)%all, n>>7)
				m.same(t, b)
				if t.Failed() {
					t.FailNow()
				}
			}
		}
	}
}

// P7.5: no two calls are one operation, and no two nodes are one: of none of all that threads do anything is lost.
func TestNothingTwice(t *testing.T) {
	b := fresh(t, greatest)
	ops, nodes := map[int]uint64{}, map[int]int{}
	for n := range 256 {
		for thread := range 8 {
			key := uint64(1000*thread + n)
			op, _ := b.Begin(thread, api.Call{Kind: api.Insert, Key: key})
			ops[op] = key
			for range 2 {
				node, _ := b.Make(7-thread, op)
				nodes[node] = op
			}
		}
	}
	check(t, "how many operations", len(ops), 2048)
	check(t, "how many nodes", len(nodes), 4096)
	for op, key := range ops {
		call, e := b.Call(op)
		check(t, "Call", call, api.Call{Kind: api.Insert, Key: key}, op)
		check(t, "the error of Call", e, api.OK, op)
	}
	for node, op := range nodes {
		check(t, "Carried", b.Carried(node), op, node)
		check(t, "Key", b.Key(node), ops[op], node)
	}
}

// useAll does all that a thread may do, and asks in between for what the others do.
func useAll(t *testing.T, b *book.Book, thread int) {
	for n := range 256 {
		key := uint64(1000*thread + n)
		begin(t, b, thread, api.Call{Kind: api.Insert, Key: key}, 256*thread+n, api.OK)
		for i := range 2 {
			makeNode(t, b, thread, 256*thread+n, 65+512*thread+2*n+i, api.OK)
		}
		for other := range 8 {
			op := 256*other + n
			if call, e := b.Call(op); e == api.OK {
				check(t, "Key of Call", call.Key, uint64(1000*other+n), op)
			} else {
				check(t, "the error of Call", e, api.ErrNone, op)
			}
			node := 65 + 512*other + 2*n
			if got := b.Carried(node); got != -1 {
				check(t, "Carried", got, op, node)
				check(t, "Key", b.Key(node), uint64(1000*other+n), node)
			}
			// Nodes are asked for first: calls that begin in between are no fault.
			made := b.Made(other)
			if calls := b.Calls(other); calls < (made+1)/2 || calls > 256 {
				t.Errorf("thread %d has begun %d calls, and had made %d nodes", other, calls, made)
			}
		}
	}
}

// P7.5, P1: threads that use a book at once are in nobody's way, and see of what others do all or nothing.
func TestThreadsAtOnce(t *testing.T) {
	b := fresh(t, greatest)
	var all sync.WaitGroup
	for thread := range 8 {
		all.Go(func() { useAll(t, b, thread) })
	}
	all.Wait()
	for thread := range 8 {
		check(t, "Calls", b.Calls(thread), 256, thread)
		check(t, "Made", b.Made(thread), 512, thread)
		begin(t, b, thread, api.Call{Kind: api.Get}, 0, api.ErrRetired)
		makeNode(t, b, thread, 0, 0, api.ErrFull)
	}
}

// R4: books have nothing in common with other ones, made earlier or later.
func TestBooksApart(t *testing.T) {
	a, b := fresh(t, small), fresh(t, small)
	m := newModel(small)
	m.begin(1, api.Call{Kind: api.Insert, Key: 5})
	m.makeNode(0, 3)
	begin(t, a, 1, api.Call{Kind: api.Insert, Key: 5}, 3, api.OK)
	makeNode(t, a, 0, 3, 5, api.OK)
	newModel(small).same(t, b)
	newModel(small).same(t, fresh(t, small))
	begin(t, b, 0, api.Call{Kind: api.Get, Key: 6}, 0, api.OK)
	m.same(t, a)
}
