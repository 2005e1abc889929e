package walk_test

import (
	"math"
	"slices"
	"testing"

	"corrie/api"
	"corrie/book"
	"corrie/cells"
	"corrie/look"
	"corrie/walk"
	"corrie/world"
)

// one is a layout of one thread and one bucket: node 0, the head 1, the nodes 2 to 9, and 4 operations; these have the cells 10 to 13.
var one = api.Conf{Threads: 1, Buckets: 1, Inserts: 4, Fuel: 5, Calls: 4}

// four is a layout of four buckets, with the heads 1 to 4, and the nodes of thread 0 from 5 on: of the keys 0 to 10 bucket 0 has 0, 2, 5 and 10, bucket 1 has 4 and 7, bucket 2 has 1, 6 and 9, and bucket 3 has 3 and 8.
var four = api.Conf{Threads: 2, Buckets: 4, Inserts: 16, Fuel: 5, Calls: 16}

// Words of inserts.
const (
	pending = 0
	in      = 1
	failed  = 2
	out     = 3
)

// fresh is a new world of a layout that may be.
func fresh(t *testing.T, c api.Conf) *world.World {
	t.Helper()
	w, e := world.New(c)
	if e != api.OK {
		t.Fatalf("New of %+v is an error, %d", c, e)
	}
	return w
}

// insert is an insert of a key by thread 0, whose operation has that word.
func insert(t *testing.T, w *world.World, key, word uint64) int {
	t.Helper()
	op, e := w.Book.Begin(0, api.Call{Kind: api.Insert, Key: key, Val: 10 * key})
	if e != api.OK {
		t.Fatalf("Begin of %d is an error, %d", key, e)
	}
	w.Turn(op, 0, word)
	return op
}

// carry makes a node of thread 0 that carries an operation.
func carry(t *testing.T, w *world.World, op int) int {
	t.Helper()
	node, e := w.Book.Make(0, op)
	if e != api.OK {
		t.Fatalf("Make of %d is an error, %d", op, e)
	}
	return node
}

// chain lays nodes one behind the other, behind a head. One below 0 is marked.
func chain(w *world.World, head int, nodes ...int) {
	at, marked := head, uint64(0)
	for _, node := range append(slices.Clone(nodes), 0) {
		behind := uint64(0)
		if node < 0 {
			node, behind = -node, 1
		}
		w.Set(at, 2*uint64(node)+marked)
		at, marked = node, behind
	}
}

// lay is a world of the layout four, where bucket 0 has the nodes 5, 6 and so on of the operations 0, 1 and so on: inserts of these keys and words.
func lay(t *testing.T, inserts ...[2]uint64) *world.World {
	t.Helper()
	w := fresh(t, four)
	var nodes []int
	for _, i := range inserts {
		nodes = append(nodes, carry(t, w, insert(t, w, i[0], i[1])))
	}
	chain(w, 1, nodes...)
	return w
}

func check[T comparable](t *testing.T, name string, got, want T, of ...any) {
	t.Helper()
	if got != want {
		t.Errorf("%s is %+v, not %+v: %+v", name, got, want, of)
	}
}

func checkChain(t *testing.T, w *world.World, want ...int) {
	t.Helper()
	if got := look.Chain(w, 0); !slices.Equal(got, want) {
		t.Errorf("the nodes are %v, not %v", got, want)
	}
}

func peekAll(w *world.World) []uint64 {
	var all []uint64
	for at := range w.Cells.Len() {
		all = append(all, w.Cells.Peek(at))
	}
	return all
}

// run goes on until it is done, or too long, and tells how many calls of Step, and how many steps of the world, that were.
func run(w *world.World, x walk.Walk) (last walk.Walk, calls, steps int) {
	before := w.Cells.Steps()
	for calls < 1000 && !x.Done {
		x = walk.Step(w, x)
		calls++
	}
	return x, calls, w.Cells.Steps() - before
}

// goOn goes so many calls of Step further.
func goOn(w *world.World, x walk.Walk, calls int) walk.Walk {
	for range calls {
		x = walk.Step(w, x)
	}
	return x
}

// P10.1: of any key and mode there is a walk that hasn't begun.
func TestNew(t *testing.T) {
	for _, key := range []uint64{0, 1, 3, 1 << 32, 1 << 63, math.MaxUint64} {
		for _, mode := range []int{walk.Decide, walk.Seek, walk.Clean, 0, 4, -1, math.MinInt, math.MaxInt} {
			check(t, "New", walk.New(key, mode), walk.Walk{Key: key, Mode: mode, Seen: -1, Found: -1}, key, mode)
		}
	}
	check(t, "Decide", walk.Decide, 1)
	check(t, "Seek", walk.Seek, 2)
	check(t, "Clean", walk.Clean, 3)
}

// The example: in an empty bucket one step, of whatever key, mode and layout.
func TestEmptyBuckets(t *testing.T) {
	for _, c := range []api.Conf{one, four, {Threads: 8, Buckets: 64, Inserts: 256, Fuel: 65536, Calls: 256}} {
		for _, key := range []uint64{0, 1, 2, 3, 1 << 63, math.MaxUint64} {
			for mode := range 5 {
				w := fresh(t, c)
				x, calls, steps := run(w, walk.New(key, mode))
				check(t, "the walk", x, walk.Walk{Key: key, Mode: mode, Pred: w.Head(key), Seen: -1, Found: -1, Done: true}, key, mode)
				check(t, "calls", calls, 1)
				check(t, "steps", steps, 1)
			}
		}
	}
}

// some are numbers of what there is in the layout four, and isn't: cut short, or as products, some of those that there aren't would be.
var some = []int{-1, 0, 1, 2, 5, 6, 7, 68, 69, 70, 1<<31 - 1, 1 << 31, 1<<32 + 5, 1 << 62, math.MaxInt, math.MinInt, -5}

// everyWalk tells walks of all phases, modes and numbers, those that there aren't, too.
func everyWalk(do func(x walk.Walk)) {
	for phase := -2; phase <= 10; phase++ {
		for mode := range 5 {
			for n, number := range some {
				do(walk.Walk{Key: uint64(n % 3), Mode: mode, Phase: phase, Pred: some[(n+3)%len(some)], Curr: number, Next: uint64(2 * some[(n+5)%len(some)]), Seen: some[n*3%len(some)], Found: n - 1, Stop: n%2 == 1})
			}
		}
	}
}

// P10.2: a walk that is done stays as it is, whatever its fields are, and nothing is done.
func TestDoneStays(t *testing.T) {
	w := lay(t, [2]uint64{0, failed}, [2]uint64{2, in}, [2]uint64{2, pending})
	steps, all := w.Cells.Steps(), peekAll(w)
	everyWalk(func(x walk.Walk) {
		x.Done = true
		check(t, "Step", walk.Step(w, x), x)
		check(t, "Step of nil", walk.Step(nil, x), x)
	})
	check(t, "Steps", w.Cells.Steps(), steps)
	check(t, "whether cells stayed", slices.Equal(peekAll(w), all), true)
}

// P10.2: where a world is nil a walk stays as it is, of phases that there aren't, too.
func TestNilStays(t *testing.T) {
	everyWalk(func(x walk.Walk) {
		check(t, "Step", walk.Step(nil, x), x)
	})
}

// P10.2: of another phase Done is set, and nothing else, without a step.
func TestOtherPhases(t *testing.T) {
	w := lay(t, [2]uint64{0, failed}, [2]uint64{2, in}, [2]uint64{2, pending})
	steps, all := w.Cells.Steps(), peekAll(w)
	for _, phase := range []int{8, 9, 10, 255, 256, 1 << 32, math.MaxInt, -1, -2, -8, -1 << 32, math.MinInt} {
		everyWalk(func(x walk.Walk) {
			x.Phase = phase
			want := x
			want.Done = true
			check(t, "Step", walk.Step(w, x), want)
		})
	}
	check(t, "Steps", w.Cells.Steps(), steps)
	check(t, "whether cells stayed", slices.Equal(peekAll(w), all), true)
}

// P1: no walk panics of a world that was put together of what there isn't.
func TestWorldsWithoutMuch(t *testing.T) {
	full := lay(t, [2]uint64{2, in})
	var none *book.Book
	for _, w := range []*world.World{
		{},
		{C: four},
		{C: four, Book: full.Book},
		{C: four, Cells: full.Cells, Book: none},
		{C: four, Cells: cells.New(-1), Book: full.Book},
		{Cells: full.Cells, Book: full.Book},
		{C: api.Conf{Threads: 1, Buckets: -1, Calls: 1}, Cells: full.Cells, Book: full.Book},
	} {
		everyWalk(func(x walk.Walk) { goOn(w, x, 3) })
	}
}

// stage is what a walk is to be after a call of Step, in the world that is told.
type stage struct {
	phase, pred, curr int
	next              uint64
	seen              int
}

// checkStages goes step by step, each of which is one of the world, and tells the last walk.
func checkStages(t *testing.T, w *world.World, x walk.Walk, stages ...stage) walk.Walk {
	t.Helper()
	for n, s := range stages {
		want := x
		want.Phase, want.Pred, want.Curr, want.Next, want.Seen = s.phase, s.pred, s.curr, s.next, s.seen
		steps := w.Cells.Steps()
		x = walk.Step(w, x)
		check(t, "the walk", x, want, n)
		check(t, "steps", w.Cells.Steps()-steps, 1, n)
	}
	return x
}

// checkLast goes one step further, which is the last one, and changes what is told alone.
func checkLast(t *testing.T, w *world.World, x walk.Walk, change func(x *walk.Walk)) {
	t.Helper()
	want := x
	change(&want)
	want.Done = true
	check(t, "the last walk", walk.Step(w, x), want)
}

// P10.2, P10.3: a seek by lesser keys, over one of them and through one that is marked, up to one that is In.
func TestSeekStepByStep(t *testing.T) {
	w := lay(t, [2]uint64{0, pending}, [2]uint64{0, 9}, [2]uint64{2, failed}, [2]uint64{2, in}, [2]uint64{5, in})
	chain(w, 1, 5, 6, -7, 8, 9)
	x := checkStages(t, w, walk.New(2, walk.Seek),
		stage{1, 1, 5, 0, -1},  // begun
		stage{3, 1, 5, 12, -1}, // peeked
		stage{1, 5, 6, 12, -1}, // of another key
		stage{3, 5, 6, 14, -1}, // peeked
		stage{4, 5, 6, 14, -1}, // over, though of another key
		stage{1, 5, 6, 14, -1}, // marked
		stage{2, 5, 6, 15, -1}, // seen so
		stage{1, 5, 7, 15, -1}, // unlinked
		stage{2, 5, 7, 17, -1}, // marked by somebody
		stage{1, 5, 8, 17, -1}, // unlinked
		stage{3, 5, 8, 18, -1}, // peeked
	)
	checkChain(t, w, 5, 8, 9)
	check(t, "the mark", w.Next(6), 15)
	checkLast(t, w, x, func(x *walk.Walk) { x.Found, x.Stop = 3, true })
}

// P10.2, P10.3: an insert's walk, that lets one in, refuses the next one, and unlinks it, and a second node of the first one.
func TestDecideStepByStep(t *testing.T) {
	w := lay(t, [2]uint64{2, pending}, [2]uint64{2, pending}, [2]uint64{5, pending})
	twice := carry(t, w, 0)
	chain(w, 1, 5, 6, twice, 7)
	x := checkStages(t, w, walk.New(2, walk.Decide),
		stage{1, 1, 5, 0, -1},  // begun
		stage{3, 1, 5, 12, -1}, // peeked
		stage{6, 1, 5, 12, -1}, // pending, and none was seen
		stage{3, 1, 5, 12, -1}, // let in
		stage{1, 5, 6, 12, 0},  // and seen
		stage{3, 5, 6, 16, 0},  // peeked
		stage{5, 5, 6, 16, 0},  // pending, and one was seen
		stage{7, 5, 6, 16, 0},  // who is still in
		stage{3, 5, 6, 16, 0},  // refused
		stage{4, 5, 6, 16, 0},  // over
		stage{1, 5, 6, 16, 0},  // marked
		stage{2, 5, 6, 17, 0},  // seen so
		stage{1, 5, 8, 17, 0},  // unlinked
		stage{3, 5, 8, 14, 0},  // peeked
		stage{4, 5, 8, 14, 0},  // the same operation
		stage{1, 5, 8, 14, 0},  // marked
		stage{2, 5, 8, 15, 0},  // seen so
	)
	checkLast(t, w, x, func(x *walk.Walk) { x.Curr = 7 })
	checkChain(t, w, 5, 7)
	check(t, "the word of the first", w.Word(0), in)
	check(t, "the word of the second", w.Word(1), failed)
	check(t, "the word of another key", w.Word(2), pending)
}

// P10.2: to arrive is to end at no node, or one whose key is above, of keys that are as great as words are; the phase stays then.
func TestArrivals(t *testing.T) {
	for _, c := range []struct {
		low, high uint64
	}{{0, 1}, {0, math.MaxUint64}, {1<<63 - 1, 1 << 63}, {1, 1 << 63}, {1<<32 - 1, 1 << 32}, {5, 1<<32 + 2}, {math.MaxUint64 - 1, math.MaxUint64}} {
		w := fresh(t, one)
		low, high := carry(t, w, insert(t, w, c.low, in)), carry(t, w, insert(t, w, c.high, in))
		chain(w, 1, low, high)
		x, _, steps := run(w, walk.New(c.low, walk.Clean))
		check(t, "the walk", x, walk.Walk{Key: c.low, Mode: walk.Clean, Phase: 3, Pred: low, Curr: high, Next: uint64(2 * high), Seen: -1, Found: -1, Done: true}, c)
		check(t, "steps", steps, 3, c)
		x, _, steps = run(w, walk.New(c.high, walk.Clean))
		check(t, "the walk", x, walk.Walk{Key: c.high, Mode: walk.Clean, Phase: 3, Pred: high, Seen: -1, Found: -1, Done: true}, c)
		check(t, "steps", steps, 5, c)
		x, _, _ = run(w, walk.New(c.high, walk.Seek))
		check(t, "the walk", x, walk.Walk{Key: c.high, Mode: walk.Seek, Phase: 3, Pred: low, Curr: high, Seen: -1, Found: 1, Stop: true, Done: true}, c)
		chain(w, 1, high)
		x, _, steps = run(w, walk.New(c.low, walk.Seek))
		check(t, "the walk", x, walk.Walk{Key: c.low, Mode: walk.Seek, Pred: 1, Curr: high, Seen: -1, Found: -1, Done: true}, c)
		check(t, "steps", steps, 1, c)
	}
}

// P10.2: each key is walked to from its bucket's head, and what other buckets have is not come by.
func TestBuckets(t *testing.T) {
	w := fresh(t, four)
	for key := range uint64(11) {
		op := insert(t, w, key, pending)
		w.Set(w.Head(key), uint64(2*carry(t, w, op)))
		x, _, steps := run(w, walk.New(key, walk.Decide))
		check(t, "steps", steps, 5, key)
		check(t, "Seen", x.Seen, op, key)
		check(t, "the word", w.Word(op), in, key)
		w.Set(w.Head(key), 0)
	}
	check(t, "Head", w.Head(4), 2)
	check(t, "Pred", walk.Step(w, walk.New(4, walk.Seek)).Pred, 2)
}

// P10.2: a walk that begins, begins with nothing seen, wherever it was; what else it has found stays.
func TestBeginAgain(t *testing.T) {
	w := lay(t, [2]uint64{2, in})
	x := walk.Walk{Key: 2, Mode: walk.Decide, Pred: 9, Curr: 8, Next: 77, Seen: 0, Found: 4, Stop: true}
	want := x
	want.Phase, want.Pred, want.Curr, want.Seen = 1, 1, 5, -1
	check(t, "Step", walk.Step(w, x), want)
}

// P10.2: who is refused to unlink begins again: since the node ahead has another one behind it, or is marked, or is 0.
func TestUnlinkRefused(t *testing.T) {
	for _, ahead := range []uint64{2 * 7, 2*6 + 1, 0, 2*7 + 1} {
		w := lay(t, [2]uint64{0, in}, [2]uint64{2, failed}, [2]uint64{2, in}, [2]uint64{2, pending})
		x := goOn(w, walk.New(2, walk.Decide), 7)
		check(t, "Phase", x.Phase, 2)
		check(t, "Pred", x.Pred, 5)
		check(t, "Curr", x.Curr, 6)
		w.Set(5, ahead)
		want := x
		want.Phase = 0
		all, steps := peekAll(w), w.Cells.Steps()
		check(t, "Step", walk.Step(w, x), want, ahead)
		check(t, "whether cells stayed", slices.Equal(peekAll(w), all), true, ahead)
		check(t, "steps", w.Cells.Steps()-steps, 1, ahead)
	}
}

// P10.2: who is refused to unlink has seen nothing when beginning again, and takes no first node for a second one.
func TestSeenIsForgotten(t *testing.T) {
	w := lay(t, [2]uint64{2, in}, [2]uint64{2, failed}, [2]uint64{2, pending})
	x := goOn(w, walk.New(2, walk.Decide), 7)
	check(t, "Seen", x.Seen, 0)
	check(t, "Phase", x.Phase, 2)
	w.Set(5, 2*7)
	x, _, _ = run(w, x)
	check(t, "Seen", x.Seen, 0)
	checkChain(t, w, 5)
	check(t, "the word", w.Word(2), failed)
}

// P10.2: a mark is laid in place of the reference that was peeked alone; whether or not that is so, it is peeked once more.
func TestMarkRefused(t *testing.T) {
	for _, next := range []uint64{2 * 7, 2*6 + 1, 2*7 + 1, 0, 1} {
		w := lay(t, [2]uint64{2, failed}, [2]uint64{2, in})
		x := goOn(w, walk.New(2, walk.Clean), 3)
		check(t, "Phase", x.Phase, 4)
		w.Set(5, next)
		y := checkStages(t, w, x, stage{1, 1, 5, 12, -1})
		check(t, "the reference", w.Next(5), next)
		phase := 3
		if next%2 == 1 {
			phase = 2
		}
		checkStages(t, w, y, stage{phase, 1, 5, next, -1})
	}
}

// P10.2: to mark what was peeked marked leaves it so.
func TestMarkTwice(t *testing.T) {
	w := lay(t, [2]uint64{2, failed})
	w.Set(5, 13)
	walk.Step(w, walk.Walk{Key: 2, Phase: 4, Curr: 5, Next: 13})
	check(t, "the reference", w.Next(5), 13)
}

// P10.2: who was seen may have been taken out meanwhile, or be none: then the next one is let in.
func TestAskAgain(t *testing.T) {
	for _, word := range []uint64{pending, failed, out, 9, 1<<32 + 1, math.MaxUint64} {
		w := lay(t, [2]uint64{2, in}, [2]uint64{2, pending})
		x := goOn(w, walk.New(2, walk.Decide), 5)
		check(t, "Phase", x.Phase, 5)
		w.Turn(0, in, word)
		x = checkStages(t, w, x, stage{6, 5, 6, 0, -1}, stage{3, 5, 6, 0, -1})
		checkLast(t, w, x, func(x *walk.Walk) { x.Pred, x.Curr, x.Seen = 6, 0, 1 })
		check(t, "the word", w.Word(1), in)
	}
	w := lay(t, [2]uint64{2, pending})
	for _, seen := range []int{-2, -1, 32, 1 << 32, math.MaxInt, math.MinInt} {
		steps := w.Cells.Steps()
		x := walk.Walk{Key: 2, Mode: walk.Decide, Phase: 5, Pred: 1, Curr: 5, Seen: seen, Found: -1}
		want := x
		want.Phase, want.Seen = 6, -1
		check(t, "Step", walk.Step(w, x), want, seen)
		check(t, "steps", w.Cells.Steps()-steps, 0, seen)
	}
}

// P10.2: who comes to settle what was settled changes nothing, and judges once more.
func TestSettledByOthers(t *testing.T) {
	for phase := 6; phase <= 7; phase++ {
		for _, word := range []uint64{in, failed, out, 1 << 32, math.MaxUint64} {
			w := lay(t, [2]uint64{2, word})
			x := walk.Walk{Key: 2, Mode: walk.Decide, Phase: phase, Pred: 1, Curr: 5, Seen: 3, Found: -1}
			checkStages(t, w, x, stage{3, 1, 5, 0, 3})
			check(t, "the word", w.Word(0), word, phase)
		}
		w := lay(t, [2]uint64{2, pending}, [2]uint64{2, pending})
		walk.Step(w, walk.Walk{Key: 2, Mode: walk.Decide, Phase: phase, Pred: 5, Curr: 6, Seen: 0})
		check(t, "the word", w.Word(1), uint64(phase-5))
		check(t, "the word of another one", w.Word(0), pending)
	}
}

// P10.3: what a judgement comes to, by the mode, the word and the key, and by what was seen.
func TestJudgements(t *testing.T) {
	const seek, decide, clean = walk.Seek, walk.Decide, walk.Clean
	for _, c := range []struct {
		mode            int
		key, word       uint64
		seen            int
		phase, seenThen int
		found           int
		stop, advanced  bool
	}{
		{seek, 2, in, -1, 3, -1, 0, true, false},
		{seek, 2, in, 0, 3, 0, 0, true, false},
		{seek, 2, pending, -1, 3, -1, 7, true, false},
		{seek, 2, failed, -1, 4, -1, 7, false, false},
		{seek, 5, in, -1, 1, -1, 7, false, true},
		{seek, 5, pending, -1, 1, -1, 7, false, true},
		{seek, 5, out, -1, 4, -1, 7, false, false},
		{decide, 2, in, -1, 1, 0, 7, false, true},
		{decide, 2, in, 1, 1, 0, 7, false, true},
		{decide, 2, in, 0, 4, 0, 7, false, false},
		{decide, 2, pending, -1, 6, -1, 7, false, false},
		{decide, 2, pending, 0, 5, 0, 7, false, false},
		{decide, 2, pending, -2, 5, -2, 7, false, false},
		{decide, 2, math.MaxUint64, 0, 4, 0, 7, false, false},
		{decide, 5, in, 0, 1, 0, 7, false, true},
		{decide, 5, pending, 1, 1, 1, 7, false, true},
		{decide, 5, failed, -1, 4, -1, 7, false, false},
		{clean, 2, in, 0, 1, 0, 7, false, true},
		{clean, 2, pending, 0, 1, 0, 7, false, true},
		{clean, 2, out, 0, 4, 0, 7, false, false},
		{clean, 5, out, 0, 4, 0, 7, false, false},
		{0, 2, in, 0, 1, 0, 7, false, true},
		{4, 2, pending, -1, 1, -1, 7, false, true},
		{-1, 2, failed, -1, 4, -1, 7, false, false},
		{math.MaxInt, 5, in, -1, 1, -1, 7, false, true},
	} {
		w := lay(t, [2]uint64{2, c.word}, [2]uint64{2, in})
		x := walk.Walk{Key: c.key, Mode: c.mode, Phase: 3, Pred: 1, Curr: 5, Next: 12, Seen: c.seen, Found: 7}
		want := x
		want.Phase, want.Seen, want.Found, want.Stop, want.Done = c.phase, c.seenThen, c.found, c.stop, c.stop
		if c.advanced {
			want.Pred, want.Curr = 5, 6
		}
		steps, all := w.Cells.Steps(), peekAll(w)
		check(t, "Step", walk.Step(w, x), want, c)
		check(t, "steps", w.Cells.Steps()-steps, 1, c)
		check(t, "whether cells stayed", slices.Equal(peekAll(w), all), true, c)
	}
}

// P10.3: a seek that comes to one that is pending stops there, and has found none.
func TestSeekStopsAtPending(t *testing.T) {
	w := lay(t, [2]uint64{2, failed}, [2]uint64{2, pending}, [2]uint64{2, pending})
	x, _, _ := run(w, walk.New(2, walk.Seek))
	check(t, "the walk", x, walk.Walk{Key: 2, Mode: walk.Seek, Phase: 3, Pred: 1, Curr: 6, Next: 14, Seen: -1, Found: -1, Stop: true, Done: true})
	check(t, "the word", w.Word(1), pending)
	checkChain(t, w, 6, 7)
}

// R3: a walk that was told stays, and one that is handed in once more goes the same way.
func TestWalksAreValues(t *testing.T) {
	w := lay(t, [2]uint64{0, in}, [2]uint64{2, in})
	begun := walk.Step(w, walk.New(2, walk.Seek))
	kept := begun
	first, _, _ := run(w, begun)
	second, _, _ := run(w, begun)
	check(t, "the walk", begun, kept)
	check(t, "the second one", second, first)
}
