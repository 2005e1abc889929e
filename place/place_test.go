package place_test

import (
	"math"
	"slices"
	"testing"

	"corrie/api"
	"corrie/book"
	"corrie/cells"
	"corrie/look"
	"corrie/place"
	"corrie/walk"
	"corrie/world"
)

// small is a layout of two threads and one bucket: node 0, the head 1, the nodes 2 to 9 of thread 0, 10 to 17 of thread 1, and the operations 0 to 3 and 4 to 7.
var small = api.Conf{Threads: 2, Buckets: 1, Inserts: 4, Fuel: 5, Calls: 4}

// Words of inserts.
const (
	pending = 0
	in      = 1
	failed  = 2
	out     = 3
)

// fresh is a new world of a layout that may be.
func fresh(t *testing.T, c api.Conf) *world.World {
	t.Helper()
	w, e := world.New(c)
	if e != api.OK {
		t.Fatalf("New of %+v is an error, %d", c, e)
	}
	return w
}

// insert is an insert of a key by a thread, whose operation has that word.
func insert(t *testing.T, w *world.World, thread int, key, word uint64) int {
	t.Helper()
	op, e := w.Book.Begin(thread, api.Call{Kind: api.Insert, Key: key, Val: 10*key + uint64(thread)})
	if e != api.OK {
		t.Fatalf("Begin of %d is an error, %d", key, e)
	}
	w.Turn(op, 0, word)
	return op
}

// carry makes a node of thread 0 that carries an operation.
func carry(t *testing.T, w *world.World, op int) int {
	t.Helper()
	node, e := w.Book.Make(0, op)
	if e != api.OK {
		t.Fatalf("Make of %d is an error, %d", op, e)
	}
	return node
}

// chain lays nodes one behind the other, behind a head. One below 0 is marked.
func chain(w *world.World, head int, nodes ...int) {
	at, marked := head, uint64(0)
	for _, node := range append(slices.Clone(nodes), 0) {
		behind := uint64(0)
		if node < 0 {
			node, behind = -node, 1
		}
		w.Set(at, 2*uint64(node)+marked)
		at, marked = node, behind
	}
}

// lay is a world of the layout small, with the nodes 2, 3 and so on of the operations 0, 1 and so on: inserts of these keys and words by thread 0.
func lay(t *testing.T, inserts ...[2]uint64) *world.World {
	t.Helper()
	w := fresh(t, small)
	var nodes []int
	for _, i := range inserts {
		nodes = append(nodes, carry(t, w, insert(t, w, 0, i[0], i[1])))
	}
	chain(w, 1, nodes...)
	return w
}

func check[T comparable](t *testing.T, name string, got, want T, of ...any) {
	if got != want {
		t.Helper()
		t.Errorf("%s is %+v, not %+v: %+v", name, got, want, of)
	}
}

func checkChain(t *testing.T, w *world.World, want ...int) {
	t.Helper()
	if got := look.Chain(w, 0); !slices.Equal(got, want) {
		t.Errorf("the nodes are %v, not %v", got, want)
	}
}

func checkPairs(t *testing.T, w *world.World, want ...api.Pair) {
	t.Helper()
	if got := look.Pairs(w); !slices.Equal(got, want) {
		t.Errorf("the pairs are %v, not %v", got, want)
	}
}

func peekAll(w *world.World) []uint64 {
	var all []uint64
	for at := range w.Cells.Len() {
		all = append(all, w.Cells.Peek(at))
	}
	return all
}

// run goes on until it is done, or too long, and tells how many steps of the world that were.
func run(w *world.World, x place.Put) (last place.Put, steps int) {
	before := w.Cells.Steps()
	for calls := 0; calls < 2000 && !x.Done; calls++ {
		x = place.Step(w, x)
	}
	return x, w.Cells.Steps() - before
}

// goOn goes so many calls of Step further.
func goOn(w *world.World, x place.Put, calls int) place.Put {
	for range calls {
		x = place.Step(w, x)
	}
	return x
}

// checkStep holds what a step comes to, and how many steps of the world it is, against what is asked.
func checkStep(t *testing.T, w *world.World, x, want place.Put, steps int, of ...any) {
	t.Helper()
	before := w.Cells.Steps()
	check(t, "Step", place.Step(w, x), want, of...)
	check(t, "steps", w.Cells.Steps()-before, steps, of...)
}

// checkStill is checkStep of a step that changes no cell, and makes no node.
func checkStill(t *testing.T, w *world.World, x, want place.Put, steps int, of ...any) {
	t.Helper()
	all, made := peekAll(w), [2]int{w.Book.Made(0), w.Book.Made(1)}
	checkStep(t, w, x, want, steps, of...)
	check(t, "whether cells stayed", slices.Equal(peekAll(w), all), true, of...)
	check(t, "the nodes made", [2]int{w.Book.Made(0), w.Book.Made(1)}, made, of...)
}

// some are numbers of what there is in the layout small, and isn't: cut short, or as products, some of those that there aren't would be.
var some = []int{-1, 0, 1, 2, 5, 6, 10, 17, 18, 25, 1<<31 - 1, 1 << 31, 1<<32 + 5, 1 << 62, math.MaxInt, math.MinInt, -5}

// phases are those that there are, and others.
var phases = []int{0, 1, 2, 3, 4, 5, 6, 7, 255, 256, 1 << 32, 1<<32 + 1, math.MaxInt, -1, -2, -6, -1 << 32, math.MinInt}

// everyPut tells inserts of that phase, and of all numbers, those that there aren't, too.
func everyPut(phase int, do func(x place.Put)) {
	for n, number := range some {
		x := place.Put{Op: number, Thread: some[(n+2)%len(some)], Phase: phase, Node: some[(n+7)%len(some)], Linked: n%2 == 1, Won: n%3 == 1}
		x.Walk = walk.Walk{Key: uint64(n % 3), Mode: n % 5, Phase: n%10 - 1, Pred: some[(n+3)%len(some)], Curr: some[(n+11)%len(some)], Next: uint64(2 * some[(n+5)%len(some)]), Seen: some[n*3%len(some)], Found: n - 1, Stop: n%2 == 1, Done: n%4 == 1}
		do(x)
		x.Node, x.Walk.Curr = 0, 0
		do(x)
	}
}

// P11.1: of any operation and thread there is an insert that hasn't begun.
func TestNew(t *testing.T) {
	for _, op := range some {
		for _, thread := range some {
			check(t, "New", place.New(op, thread), place.Put{Op: op, Thread: thread}, op, thread)
		}
	}
}

// P11.2: an insert that is done stays as it is, whatever its fields are, and nothing is done.
func TestDoneStays(t *testing.T) {
	w := lay(t, [2]uint64{0, failed}, [2]uint64{2, in}, [2]uint64{2, pending})
	for _, phase := range phases {
		everyPut(phase, func(x place.Put) {
			x.Done = true
			checkStill(t, w, x, x, 0)
			check(t, "Step of nil", place.Step(nil, x), x)
		})
	}
}

// P11.2: where a world is nil an insert stays as it is, of phases that there aren't, too.
func TestNilStays(t *testing.T) {
	for _, phase := range phases {
		everyPut(phase, func(x place.Put) {
			check(t, "Step", place.Step(nil, x), x)
		})
	}
}

// P11.2: of another phase Done is set, and nothing else, without a step.
func TestOtherPhases(t *testing.T) {
	w := lay(t, [2]uint64{0, failed}, [2]uint64{2, in}, [2]uint64{2, pending})
	for _, phase := range phases {
		if 0 <= phase && phase <= 5 {
			continue
		}
		everyPut(phase, func(x place.Put) {
			want := x
			want.Done = true
			checkStill(t, w, x, want, 0)
		})
	}
}

// P1: no insert panics of a world that was put together of what there isn't.
func TestWorldsWithoutMuch(t *testing.T) {
	full := lay(t, [2]uint64{2, in})
	var none *book.Book
	for _, w := range []*world.World{
		{},
		{C: small},
		{C: small, Book: full.Book},
		{C: small, Cells: full.Cells, Book: none},
		{C: small, Cells: cells.New(-1), Book: full.Book},
		{Cells: full.Cells, Book: full.Book},
		{C: api.Conf{Threads: 1, Buckets: -1, Calls: 1}, Cells: full.Cells, Book: full.Book},
	} {
		for _, phase := range phases {
			everyPut(phase, func(x place.Put) { goOn(w, x, 3) })
		}
	}
}

// asked are words that an insert may be told.
var asked = []uint64{pending, in, failed, out, 4, 7, 1 << 32, 1<<32 + 2, 1 << 63, math.MaxUint64}

// P11.2: what an insert is told, ahead of the walk and behind it, by the word and by whether it was linked.
func TestTold(t *testing.T) {
	for _, word := range asked {
		for n := range 8 {
			w := lay(t, [2]uint64{1, in}, [2]uint64{7, word})
			x := place.Put{Op: 1, Thread: 1, Phase: n & 2, Node: 9, Linked: n&1 == 1, Won: n&4 == 4}
			x.Walk = walk.Walk{Key: 5, Mode: walk.Seek, Phase: 3, Pred: 2, Curr: 3, Next: 8, Seen: 4, Found: 6, Stop: true, Done: true}
			want := x
			want.Won = word != pending && word != failed
			anew := walk.Walk{Key: 7, Mode: walk.Decide, Seen: -1, Found: -1}
			if word == pending && x.Phase == 0 {
				want.Walk, want.Phase = anew, 1
			} else if word == pending {
				want.Phase = 3
			} else if x.Linked {
				want.Walk, want.Phase = anew, 5
			} else {
				want.Done = true
			}
			checkStill(t, w, x, want, 1, word, n)
		}
	}
}

// P11.2: where an operation wasn't written down the key is 0; where there is no such one its word is 0, by no step.
func TestToldOfNone(t *testing.T) {
	for _, op := range []int{7, -1, 8, 1 << 32, math.MaxInt, math.MinInt} {
		w := lay(t, [2]uint64{7, in})
		steps := 0
		if op == 7 {
			steps = 1
		}
		x := place.Put{Op: op, Linked: true, Won: true, Walk: walk.New(7, walk.Seek)}
		want := x
		want.Walk, want.Phase, want.Won = walk.Walk{Mode: walk.Decide, Seen: -1, Found: -1}, 1, false
		checkStill(t, w, x, want, steps, op)
		x.Phase = 2
		want = x
		want.Phase, want.Won = 3, false
		checkStill(t, w, x, want, steps, op)
	}
	w := fresh(t, small)
	w.Turn(7, 0, failed)
	want := place.Put{Op: 7, Phase: 5, Linked: true, Walk: walk.New(0, walk.Decide)}
	checkStill(t, w, place.Put{Op: 7, Linked: true}, want, 1)
}

// P11.2: of a phase that walks the walk alone is one step further, and what comes then hangs on its end.
func TestWalks(t *testing.T) {
	for _, phase := range []int{1, 5} {
		w := lay(t, [2]uint64{2, pending}, [2]uint64{7, in})
		x := place.Put{Op: 1, Thread: 1, Phase: phase, Node: 9, Linked: true, Won: true, Walk: walk.New(2, walk.Decide)}
		for _, stage := range []walk.Walk{
			{Phase: 1, Pred: 1, Curr: 2, Seen: -1},          // begun
			{Phase: 3, Pred: 1, Curr: 2, Next: 6, Seen: -1}, // peeked
			{Phase: 6, Pred: 1, Curr: 2, Next: 6, Seen: -1}, // pending
			{Phase: 3, Pred: 1, Curr: 2, Next: 6, Seen: -1}, // let in
		} {
			want := x
			stage.Key, stage.Mode, stage.Found = 2, walk.Decide, -1
			want.Walk = stage
			checkStep(t, w, x, want, 1, phase)
			x = want
		}
		want := x
		want.Walk = walk.Walk{Key: 2, Mode: walk.Decide, Phase: 3, Pred: 2, Curr: 3, Next: 6, Found: -1, Done: true}
		if phase == 1 {
			want.Phase = 2
		} else {
			want.Done = true
		}
		checkStill(t, w, x, want, 1, phase)
		check(t, "the word", w.Word(0), in)
	}
}

// P11.2: a walk that is over already, or that stops, or is of a phase that there isn't, is over.
func TestWalksThatAreOver(t *testing.T) {
	for _, c := range []struct {
		walk  walk.Walk
		steps int
	}{
		{walk.Walk{Key: 2, Phase: 1, Pred: 7, Curr: 8, Done: true}, 0},
		{walk.Walk{Key: 2, Phase: 8, Pred: 7, Curr: 8}, 0},
		{walk.Walk{Key: 2, Mode: walk.Seek, Phase: 3, Pred: 1, Curr: 2}, 1},
	} {
		for _, phase := range []int{1, 5} {
			w := lay(t, [2]uint64{2, in})
			x := place.Put{Op: 0, Phase: phase, Walk: c.walk}
			want := x
			want.Walk = walk.Step(w, c.walk)
			check(t, "whether it is over", want.Walk.Done, true)
			if phase == 1 {
				want.Phase = 2
			} else {
				want.Done = true
			}
			checkStill(t, w, x, want, c.steps, phase)
		}
	}
}

// P11.2: to lay makes a node of the thread that carries the operation, if there was none, and lays the reference of what is to be behind it.
func TestLay(t *testing.T) {
	for _, curr := range []int{0, 2, 17, 1<<31 - 1, 1 << 31, 1<<32 + 3, -1, math.MinInt} {
		reference := uint64(0)
		if 0 <= curr && curr < 1<<31 {
			reference = 2 * uint64(curr)
		}
		for node := 10; node < 12; node++ {
			w := lay(t, [2]uint64{2, in}, [2]uint64{2, pending})
			for n := 10; n < node; n++ {
				w.Book.Make(1, 0)
			}
			w.Set(node, 77)
			x := place.Put{Op: 1, Thread: 1, Phase: 3, Linked: true, Won: true, Walk: walk.Walk{Pred: 5, Curr: curr, Next: 9}}
			want := x
			want.Node, want.Phase = node, 4
			checkStep(t, w, x, want, 1, curr)
			check(t, "the reference", w.Next(node), reference, curr)
			check(t, "Carried", w.Book.Carried(node), 1)
			check(t, "Made", w.Book.Made(1), node-9)
			check(t, "Made of another one", w.Book.Made(0), 2)
		}
	}
}

// P11.2: where there is a node none is made, whatever the thread and the operation are.
func TestLayAnew(t *testing.T) {
	for _, node := range []int{3, 5, 10, 17, 1} {
		for _, x := range []place.Put{{Op: 1, Thread: 1}, {Op: -1, Thread: 7}, {Op: 7, Thread: 0}} {
			w := lay(t, [2]uint64{2, in}, [2]uint64{2, pending})
			w.Set(node, 99)
			x.Phase, x.Node, x.Walk.Curr = 3, node, 2
			want := x
			want.Phase = 4
			checkStep(t, w, x, want, 1, node)
			check(t, "the reference", w.Next(node), 4, node)
			check(t, "Made", w.Book.Made(0)+w.Book.Made(1), 2, node)
		}
	}
	w := lay(t, [2]uint64{2, in})
	for _, node := range []int{-1, 18, 1 << 32, 1<<32 + 5, math.MaxInt, math.MinInt} {
		x := place.Put{Phase: 3, Node: node}
		want := x
		want.Phase = 4
		checkStill(t, w, x, want, 0, node)
	}
}

// P11.2: where no node can be made, of a thread, or an operation, that there isn't, or since the thread has no node left, the insert is done, and nothing was laid.
func TestLayWithoutNode(t *testing.T) {
	w := lay(t, [2]uint64{2, in}, [2]uint64{2, pending})
	for range 8 {
		w.Book.Make(1, 0)
	}
	for _, c := range [][2]int{{1, 1}, {1, 2}, {1, -1}, {1, 1 << 32}, {0, math.MaxInt}, {-1, 2}, {-1, 0}, {8, 0}, {2, 1}, {7, 0}, {math.MinInt, math.MinInt}} {
		for n := range 4 {
			x := place.Put{Op: c[0], Thread: c[1], Phase: 3, Linked: n&1 == 1, Won: n&2 == 2, Walk: walk.Walk{Pred: 1, Curr: 2}}
			want := x
			want.Done = true
			checkStill(t, w, x, want, 0, c)
		}
	}
}

// P11.2: a thread that has no node left does no insert that it would have to link, and doesn't win then; whoever has one left does it.
func TestNoNodeLeft(t *testing.T) {
	w := lay(t, [2]uint64{2, in})
	for range 8 {
		w.Book.Make(1, 0)
	}
	op := insert(t, w, 1, 5, pending)
	x, steps := run(w, place.New(op, 1))
	check(t, "the insert", x, place.Put{Op: op, Thread: 1, Phase: 3, Walk: walk.Walk{Key: 5, Mode: walk.Decide, Phase: 3, Pred: 2, Seen: -1, Found: -1, Done: true}, Done: true})
	check(t, "steps", steps, 5)
	check(t, "the word", w.Word(op), pending)
	x, _ = run(w, place.New(op, 0))
	check(t, "whether it won", x.Won, true)
	checkPairs(t, w, api.Pair{Key: 2, Val: 20}, api.Pair{Key: 5, Val: 51})
	x, steps = run(w, place.New(op, 1))
	check(t, "the insert", x, place.Put{Op: op, Thread: 1, Done: true, Won: true})
	check(t, "steps", steps, 1)
}

// P11.2: to link is done where the reference of the node ahead is that of the node behind, and isn't marked; whether or not that is so, it is asked once more.
func TestLink(t *testing.T) {
	for _, ahead := range []uint64{6, 7, 0, 1, 20, 21, 8, 1<<32 + 6} {
		for n := range 4 {
			w := lay(t, [2]uint64{2, in}, [2]uint64{7, in})
			w.Set(2, ahead)
			x := place.Put{Op: 1, Thread: 1, Phase: 4, Node: 10, Linked: n&1 == 1, Won: n&2 == 2, Walk: walk.Walk{Key: 3, Phase: 3, Pred: 2, Curr: 3, Next: 6, Done: true}}
			want := x
			want.Phase = 0
			if ahead == 6 {
				want.Linked = true
				checkStep(t, w, x, want, 1, ahead)
				check(t, "the reference", w.Next(2), 20)
				continue
			}
			checkStill(t, w, x, want, 1, ahead)
		}
	}
}

// P11.2: references of what there can be none of are 0, and no node that there isn't is linked to.
func TestLinkOfNone(t *testing.T) {
	for _, wrong := range []int{-1, 1 << 31, 1<<32 + 3, math.MinInt, math.MaxInt} {
		w := lay(t, [2]uint64{2, in})
		x := place.Put{Phase: 4, Node: 10, Walk: walk.Walk{Pred: 2, Curr: wrong}}
		want := x
		want.Phase, want.Linked = 0, true
		checkStep(t, w, x, want, 1, wrong)
		check(t, "the reference", w.Next(2), 20, wrong)
		x = place.Put{Phase: 4, Node: wrong, Walk: walk.Walk{Pred: 1, Curr: 2}}
		want = x
		want.Phase, want.Linked = 0, true
		checkStep(t, w, x, want, 1, wrong)
		check(t, "the reference", w.Next(1), 0, wrong)
		x = place.Put{Phase: 4, Node: 10, Walk: walk.Walk{Pred: wrong, Curr: 2}}
		want = x
		want.Phase = 0
		checkStill(t, w, x, want, 0, wrong)
	}
	w := lay(t, [2]uint64{2, in})
	x := place.Step(w, place.Put{Phase: 4, Node: 1<<31 - 1, Walk: walk.Walk{Pred: 2}})
	check(t, "whether it is linked", x.Linked, true)
	check(t, "the reference", w.Next(2), 1<<32-2)
}

// P11.2, P11.3, the example: into nothing, step by step, each of which is one of the world.
func TestIntoNothing(t *testing.T) {
	w := fresh(t, small)
	op := insert(t, w, 1, 4, pending)
	x, steps := place.New(op, 0), w.Cells.Steps()
	for n, phase := range []int{1, 2, 3, 4, 0, 1, 1, 1, 1, 1, 2, 5, 5, 5, 5} {
		check(t, "whether it is done", x.Done, false, n)
		x = place.Step(w, x)
		check(t, "the phase", x.Phase, phase, n)
		check(t, "steps", w.Cells.Steps()-steps, n+1)
		check(t, "whether it is sound", look.Sound(w), true, n)
		check(t, "whether it is linked", x.Linked, n >= 4, n)
		check(t, "whether it won", x.Won, n >= 11, n)
		check(t, "whether it is in", len(look.Pairs(w)) == 1, n >= 9, n)
	}
	clean := walk.Walk{Key: 4, Mode: walk.Decide, Phase: 3, Pred: 2, Seen: 4, Found: -1, Done: true}
	check(t, "the insert", x, place.Put{Op: 4, Phase: 5, Node: 2, Linked: true, Walk: clean, Done: true, Won: true})
	check(t, "the word", w.Word(op), in)
	checkChain(t, w, 2)
	checkPairs(t, w, api.Pair{Key: 4, Val: 41})
}

// P11.3, the example: into nothing, of whatever key, layout and thread, by 15 steps.
func TestIntoEmptyBuckets(t *testing.T) {
	for _, c := range []api.Conf{small, {Threads: 1, Buckets: 1, Inserts: 1, Calls: 1}, {Threads: 3, Buckets: 8, Inserts: 2, Calls: 2}, {Threads: 8, Buckets: 64, Inserts: 256, Fuel: 65536, Calls: 256}} {
		for _, key := range []uint64{0, 1, 2, 3, 1 << 63, math.MaxUint64} {
			w := fresh(t, c)
			op := insert(t, w, 0, key, pending)
			x, steps := run(w, place.New(op, c.Threads-1))
			check(t, "steps", steps, 15, key, c)
			check(t, "the word", w.Word(op), in, key, c)
			check(t, "whether it won", x.Won, true, key, c)
			checkPairs(t, w, api.Pair{Key: key, Val: 10 * key})
			if got := look.Chain(w, w.Head(key)-1); !slices.Equal(got, []int{x.Node}) {
				t.Errorf("the nodes of %d are %v", key, got)
			}
		}
	}
}

// P11.3: between others each key finds its place; one that is there already is refused, and leaves nothing behind.
func TestBetweenOthers(t *testing.T) {
	for key := range uint64(9) {
		w := lay(t, [2]uint64{1, in}, [2]uint64{4, failed}, [2]uint64{4, in}, [2]uint64{7, in})
		op := insert(t, w, 1, key, pending)
		x, _ := run(w, place.New(op, 1))
		there := key == 1 || key == 4 || key == 7
		check(t, "whether it is done", x.Done, true, key)
		check(t, "whether it won", x.Won, !there, key)
		check(t, "whether it is linked", x.Linked, true, key)
		check(t, "whether it is sound", look.Sound(w), true, key)
		want := []api.Pair{{Key: 1, Val: 10}, {Key: 4, Val: 40}, {Key: 7, Val: 70}}
		if word := w.Word(op); there {
			check(t, "the word", word, failed, key)
		} else {
			check(t, "the word", word, in, key)
			want = append(want, api.Pair{Key: key, Val: 10*key + 1})
		}
		slices.SortFunc(want, func(a, b api.Pair) int { return int(a.Key) - int(b.Key) })
		checkPairs(t, w, want...)
		nodes := len(want)
		if key < 4 {
			nodes++ // nobody came by the one that is over
		}
		check(t, "how many nodes", len(look.Chain(w, 0)), nodes, key)
	}
}

// P11.2: whoever comes when an insert is decided is told so by one step, and nothing else is done.
func TestDecidedAlready(t *testing.T) {
	for _, word := range []uint64{in, failed, out, 9, math.MaxUint64} {
		w := lay(t, [2]uint64{2, word})
		want := place.Put{Thread: 1, Done: true, Won: word != failed}
		checkStill(t, w, place.New(0, 1), want, 1, word)
	}
}

// P11.2: one that another thread has linked meanwhile is let in by the walk, and no node of it is made any more.
func TestLetInByTheWalk(t *testing.T) {
	w := lay(t, [2]uint64{2, pending}, [2]uint64{2, pending})
	x, steps := run(w, place.New(0, 1))
	check(t, "whether it won", x.Won, true)
	check(t, "whether it is linked", x.Linked, false)
	check(t, "the node", x.Node, 0)
	check(t, "steps", steps, 15)
	check(t, "Made", w.Book.Made(1), 0)
	check(t, "the word of another one", w.Word(1), failed)
	checkChain(t, w, 2)
}

// P11.2: who is refused to link keeps its node, asks and walks once more, and lays it anew.
func TestRefusedToLink(t *testing.T) {
	w := lay(t, [2]uint64{2, in})
	first, second := insert(t, w, 1, 5, pending), insert(t, w, 1, 4, pending)
	x := goOn(w, place.New(first, 0), 6)
	check(t, "the phase", x.Phase, 4)
	check(t, "the node", x.Node, 3)
	run(w, place.New(second, 1))
	checkChain(t, w, 2, 10)
	x = place.Step(w, x)
	check(t, "the phase", x.Phase, 0)
	check(t, "whether it is linked", x.Linked, false)
	x, _ = run(w, x)
	check(t, "whether it won", x.Won, true)
	check(t, "the node", x.Node, 3)
	check(t, "Made", w.Book.Made(0), 2)
	checkChain(t, w, 2, 10, 3)
}

// P11.2: of one insert two threads may link a node each; whoever links the second one unlinks it.
func TestLinkedTwice(t *testing.T) {
	w := lay(t, [2]uint64{2, in})
	op := insert(t, w, 1, 4, pending)
	x := goOn(w, place.New(op, 0), 6)
	run(w, place.New(op, 1))
	checkChain(t, w, 2, 10)
	x.Walk.Pred = 10 // as if it had walked when the other one had linked
	x = place.Step(w, x)
	check(t, "whether it is linked", x.Linked, true)
	checkChain(t, w, 2, 10, 3)
	x, _ = run(w, x)
	check(t, "whether it won", x.Won, true)
	checkChain(t, w, 2, 10)
	check(t, "the mark", w.Next(3), 1)
}

// P11.2: one that was taken out before its node is linked has won nevertheless, and unlinks that node.
func TestLinkedLate(t *testing.T) {
	w := lay(t)
	op := insert(t, w, 1, 4, pending)
	x := goOn(w, place.New(op, 0), 4)
	check(t, "the phase", x.Phase, 4)
	w.Turn(op, pending, 7)
	x = goOn(w, x, 2)
	check(t, "the phase", x.Phase, 5)
	checkChain(t, w, 2)
	x, steps := run(w, x)
	check(t, "whether it won", x.Won, true)
	check(t, "steps", steps, 6)
	checkChain(t, w)
}

// R3: an insert that was told stays, and one that is handed in once more goes the same way.
func TestPutsAreValues(t *testing.T) {
	w, again := lay(t, [2]uint64{2, in}), lay(t, [2]uint64{2, in})
	op := insert(t, w, 1, 4, pending)
	insert(t, again, 1, 4, pending)
	begun := goOn(w, place.New(op, 1), 3)
	goOn(again, place.New(op, 1), 3)
	kept := begun
	first, _ := run(w, begun)
	second, _ := run(again, begun)
	check(t, "the insert", begun, kept)
	check(t, "the second one", second, first)
}
