package take_test

import (
	"math"
	"slices"
	"testing"

	"corrie/api"
	"corrie/book"
	"corrie/cells"
	"corrie/look"
	"corrie/take"
	"corrie/walk"
	"corrie/world"
)

// small is a layout of two threads and one bucket: node 0, the head 1, the nodes 2 to 9 of thread 0, 10 to 17 of thread 1, and the operations 0 to 3 and 4 to 7.
var small = api.Conf{Threads: 2, Buckets: 1, Inserts: 4, Fuel: 5, Calls: 4}

// Words of inserts; out is that of one that operation 0 took out.
const (
	pending = 0
	in      = 1
	failed  = 2
	out     = 3
)

// Words of deletes; target is that of one that has operation 0 for its target.
const (
	open   = 0
	absent = 1
	target = 2
)

// fresh is a new world of a layout that may be.
func fresh(t *testing.T, c api.Conf) *world.World {
	t.Helper()
	w, e := world.New(c)
	if e != api.OK {
		t.Fatalf("New of %+v is an error, %d", c, e)
	}
	return w
}

// begin is a call by a thread, whose operation has that word.
func begin(t *testing.T, w *world.World, thread int, call api.Call, word uint64) int {
	t.Helper()
	op, e := w.Book.Begin(thread, call)
	if e != api.OK {
		t.Fatalf("Begin of %+v is an error, %d", call, e)
	}
	w.Turn(op, 0, word)
	return op
}

// insert is one of a key by a thread, remove a delete of it.
func insert(t *testing.T, w *world.World, thread int, key, word uint64) int {
	t.Helper()
	return begin(t, w, thread, api.Call{Kind: api.Insert, Key: key, Val: 10*key + uint64(thread)}, word)
}

func remove(t *testing.T, w *world.World, thread int, key, word uint64) int {
	t.Helper()
	return begin(t, w, thread, api.Call{Kind: api.Delete, Key: key, Val: 77}, word)
}

// carry makes a node of thread 0 that carries an operation.
func carry(t *testing.T, w *world.World, op int) int {
	t.Helper()
	node, e := w.Book.Make(0, op)
	if e != api.OK {
		t.Fatalf("Make of %d is an error, %d", op, e)
	}
	return node
}

// chain lays nodes one behind the other, behind a head. One below 0 is marked.
func chain(w *world.World, head int, nodes ...int) {
	at, marked := head, uint64(0)
	for _, node := range append(slices.Clone(nodes), 0) {
		behind := uint64(0)
		if node < 0 {
			node, behind = -node, 1
		}
		w.Set(at, 2*uint64(node)+marked)
		at, marked = node, behind
	}
}

// lay is a world of the layout small, with the nodes 2, 3 and so on of the operations 0, 1 and so on: inserts of these keys and words by thread 0.
func lay(t *testing.T, inserts ...[2]uint64) *world.World {
	t.Helper()
	w := fresh(t, small)
	var nodes []int
	for _, i := range inserts {
		nodes = append(nodes, carry(t, w, insert(t, w, 0, i[0], i[1])))
	}
	chain(w, 1, nodes...)
	return w
}

func check[T comparable](t *testing.T, name string, got, want T, of ...any) {
	if got != want {
		t.Helper()
		t.Errorf("%s is %+v, not %+v: %+v", name, got, want, of)
	}
}

func checkChain(t *testing.T, w *world.World, want ...int) {
	t.Helper()
	if got := look.Chain(w, 0); !slices.Equal(got, want) {
		t.Errorf("the nodes are %v, not %v", got, want)
	}
}

func checkPairs(t *testing.T, w *world.World, want ...api.Pair) {
	t.Helper()
	if got := look.Pairs(w); !slices.Equal(got, want) {
		t.Errorf("the pairs are %v, not %v", got, want)
	}
}

func peekAll(w *world.World) []uint64 {
	var all []uint64
	for at := range w.Cells.Len() {
		all = append(all, w.Cells.Peek(at))
	}
	return all
}

// run goes on until it is done, or too long, and tells how many steps of the world that were.
func run(w *world.World, x take.Take) (last take.Take, steps int) {
	before := w.Cells.Steps()
	for calls := 0; calls < 2000 && !x.Done; calls++ {
		x = take.Step(w, x)
	}
	return x, w.Cells.Steps() - before
}

// goOn goes so many calls of Step further.
func goOn(w *world.World, x take.Take, calls int) take.Take {
	for range calls {
		x = take.Step(w, x)
	}
	return x
}

// checkStep holds what a step comes to, and how many steps of the world it is, against what is asked.
func checkStep(t *testing.T, w *world.World, x, want take.Take, steps int, of ...any) {
	t.Helper()
	before, made := w.Cells.Steps(), w.Book.Made(0)+w.Book.Made(1)
	check(t, "Step", take.Step(w, x), want, of...)
	check(t, "steps", w.Cells.Steps()-before, steps, of...)
	check(t, "how many nodes were made", w.Book.Made(0)+w.Book.Made(1), made, of...)
}

// checkStill is checkStep of a step that changes no cell.
func checkStill(t *testing.T, w *world.World, x, want take.Take, steps int, of ...any) {
	t.Helper()
	all := peekAll(w)
	checkStep(t, w, x, want, steps, of...)
	check(t, "whether cells stayed", slices.Equal(peekAll(w), all), true, of...)
}

// checkTurn is checkStep of a step of the world that lays the word of an operation, and no other cell.
func checkTurn(t *testing.T, w *world.World, x, want take.Take, op int, word uint64, of ...any) {
	t.Helper()
	all := peekAll(w)
	all[18+op] = word
	checkStep(t, w, x, want, 1, of...)
	if got := peekAll(w); !slices.Equal(got, all) {
		t.Errorf("the cells are %v, not %v: %+v", got, all, of)
	}
}

// some are numbers of what there is in the layout small, and isn't: cut short, or as products, some of those that there aren't would be.
var some = []int{-1, 0, 1, 2, 5, 6, 7, 8, 17, 18, 25, 1<<31 - 1, 1 << 31, 1<<32 + 5, 1 << 62, math.MaxInt, math.MinInt, -5}

// words are some of deletes, and of inserts.
var words = []uint64{0, 1, 2, 3, 4, 7, 9, 10, 1<<31 + 1, 1<<31 + 2, 1 << 32, 1<<32 + 1, 1<<32 + 2, 1<<32 + 3, 1 << 63, math.MaxUint64 - 1, math.MaxUint64}

// phases are those that there are, and others.
var phases = []int{0, 1, 2, 3, 4, 5, 6, 7, 255, 256, 1 << 32, 1<<32 + 1, math.MaxInt, -1, -2, -6, -1 << 32, math.MinInt}

// everyTake tells deletes of that phase, and of all numbers, those that there aren't, too.
func everyTake(phase int, do func(x take.Take)) {
	for n, number := range some {
		x := take.Take{Op: number, Own: n%2 == 1, Phase: phase, Want: words[n%len(words)], Won: n%3 == 1}
		x.Walk = walk.Walk{Key: uint64(n % 3), Mode: n % 5, Phase: n%10 - 1, Pred: some[(n+3)%len(some)], Curr: some[(n+11)%len(some)], Next: uint64(2 * some[(n+5)%len(some)]), Seen: some[n*3%len(some)], Found: n - 1, Stop: n%2 == 1, Done: n%4 == 1}
		do(x)
		x.Own, x.Won, x.Walk.Curr, x.Want = !x.Own, !x.Won, 0, words[(n+3)%len(words)]
		do(x)
	}
}

// P12.1: of any operation, a thread's own one or not, there is a delete that hasn't begun.
func TestNew(t *testing.T) {
	for _, op := range some {
		for _, own := range []bool{false, true} {
			check(t, "New", take.New(op, own), take.Take{Op: op, Own: own}, op, own)
		}
	}
}

// P12.2: a delete that is done stays as it is, whatever its fields are, and nothing is done.
func TestDoneStays(t *testing.T) {
	w := lay(t, [2]uint64{0, failed}, [2]uint64{2, in}, [2]uint64{2, pending})
	for _, phase := range phases {
		everyTake(phase, func(x take.Take) {
			x.Done = true
			checkStill(t, w, x, x, 0)
			check(t, "Step of nil", take.Step(nil, x), x)
		})
	}
}

// P12.2: where a world is nil a delete stays as it is, of phases that there aren't, too.
func TestNilStays(t *testing.T) {
	for _, phase := range phases {
		everyTake(phase, func(x take.Take) {
			check(t, "Step", take.Step(nil, x), x)
		})
	}
}

// P12.2: of another phase Done is set, and nothing else, without a step.
func TestOtherPhases(t *testing.T) {
	w := lay(t, [2]uint64{0, failed}, [2]uint64{2, in}, [2]uint64{2, pending})
	for _, phase := range phases {
		if 0 <= phase && phase <= 5 {
			continue
		}
		everyTake(phase, func(x take.Take) {
			want := x
			want.Done = true
			checkStill(t, w, x, want, 0)
		})
	}
}

// P1: no delete panics of a world that was put together of what there isn't.
func TestWorldsWithoutMuch(t *testing.T) {
	full := lay(t, [2]uint64{2, in})
	var none *book.Book
	for _, w := range []*world.World{
		{},
		{C: small},
		{C: small, Book: full.Book},
		{C: small, Cells: full.Cells, Book: none},
		{C: small, Cells: cells.New(-1), Book: full.Book},
		{Cells: full.Cells, Book: full.Book},
		{C: api.Conf{Threads: 1, Buckets: -1, Calls: 1}, Cells: full.Cells, Book: full.Book},
	} {
		for _, phase := range phases {
			everyTake(phase, func(x take.Take) { goOn(w, x, 3) })
		}
	}
}

// P12.2: to ask tells the operation's word, and by it what comes then: a walk anew, the end, or the target.
func TestAsk(t *testing.T) {
	for _, word := range words {
		for n := range 4 {
			w := lay(t, [2]uint64{1, in})
			op := remove(t, w, 1, 7, word)
			x := take.Take{Op: op, Own: n&1 == 1, Want: 5, Won: n&2 == 2}
			x.Walk = walk.Walk{Key: 5, Mode: walk.Decide, Phase: 3, Pred: 2, Curr: 3, Next: 8, Seen: 4, Found: 6, Stop: true, Done: true}
			want := x
			want.Want = word
			switch word {
			case open:
				want.Walk, want.Phase = walk.Walk{Key: 7, Mode: walk.Seek, Seen: -1, Found: -1}, 1
			case absent:
				want.Done = true
			default:
				want.Phase = 3
			}
			checkStill(t, w, x, want, 1, word, n)
		}
	}
}

// P12.2: where an operation wasn't written down the key is 0; where there is no such one its word is 0, by no step.
func TestAskOfNone(t *testing.T) {
	for _, op := range []int{7, -1, 8, 1 << 32, 1<<32 + 5, math.MaxInt, math.MinInt} {
		w := lay(t, [2]uint64{7, in})
		steps := 0
		if op == 7 {
			steps = 1
		}
		x := take.Take{Op: op, Own: true, Want: 5, Walk: walk.New(7, walk.Clean), Won: true}
		want := x
		want.Want, want.Phase, want.Walk = open, 1, walk.Walk{Mode: walk.Seek, Seen: -1, Found: -1}
		checkStill(t, w, x, want, steps, op)
	}
}

// P12.2: of a phase that walks the walk alone is one step further, as long as it isn't over.
func TestWalks(t *testing.T) {
	for _, phase := range []int{1, 5} {
		w := lay(t, [2]uint64{2, failed}, [2]uint64{7, in})
		x := take.Take{Op: 1, Own: true, Phase: phase, Want: 9, Won: true, Walk: walk.New(2, walk.Clean)}
		for _, stage := range []walk.Walk{
			{Phase: 1, Pred: 1, Curr: 2, Seen: -1},          // begun
			{Phase: 3, Pred: 1, Curr: 2, Next: 6, Seen: -1}, // peeked
			{Phase: 4, Pred: 1, Curr: 2, Next: 6, Seen: -1}, // over
			{Phase: 1, Pred: 1, Curr: 2, Next: 6, Seen: -1}, // marked
			{Phase: 2, Pred: 1, Curr: 2, Next: 7, Seen: -1}, // to be unlinked
		} {
			want := x
			stage.Key, stage.Mode, stage.Found = 2, walk.Clean, -1
			want.Walk = stage
			checkStep(t, w, x, want, 1, phase)
			x = want
		}
		want := x
		want.Walk = walk.Walk{Key: 2, Mode: walk.Clean, Phase: 2, Pred: 1, Curr: 3, Next: 7, Seen: -1, Found: -1, Done: true}
		if phase == 1 {
			want.Want, want.Phase = absent, 2
		} else {
			want.Done = true
		}
		checkStep(t, w, x, want, 1, phase)
		checkChain(t, w, 3)
	}
}

// P12.2: what the walk to the key has found is what is wanted: it, or that there is none.
func TestFound(t *testing.T) {
	for _, f := range []struct {
		found int
		want  uint64
	}{{-1, absent}, {0, target}, {1, target + 1}, {7, target + 7}, {8, target + 8}, {1<<31 - 1, 1<<31 + 1}, {1 << 31, 0}, {1<<32 - 1, 0}, {-2, 0}, {math.MinInt, 0}, {math.MaxInt, 0}} {
		for n := range 4 {
			w := lay(t, [2]uint64{2, in})
			x := take.Take{Op: 4, Own: n&1 == 1, Phase: 1, Want: 9, Won: n&2 == 2, Walk: walk.Walk{Key: 2, Mode: walk.Seek, Phase: 3, Found: f.found, Done: true}}
			want := x
			want.Want, want.Phase = f.want, 2
			checkStill(t, w, x, want, 0, f, n)
			x.Walk.Done, x.Walk.Phase = false, 8
			want.Walk.Phase = 8
			checkStill(t, w, x, want, 0, f, n)
		}
	}
}

// P12.2: the walk to the key finds who is in, and stops at whoever is pending, and finds none then.
func TestFoundByTheWalk(t *testing.T) {
	for word, want := range map[uint64]uint64{pending: absent, in: target + 1} {
		w := lay(t, [2]uint64{2, in}, [2]uint64{4, word}, [2]uint64{4, pending})
		op := remove(t, w, 1, 4, open)
		x := goOn(w, take.New(op, true), 5)
		check(t, "the phase", x.Phase, 1)
		check(t, "whether the walk is done", x.Walk.Done, false)
		x = take.Step(w, x)
		check(t, "the phase", x.Phase, 2)
		check(t, "whether the walk is stopped", x.Walk.Stop, true)
		check(t, "what is wanted", x.Want, want, word)
		check(t, "the word", w.Word(op), open)
	}
}

// P12.2: the end of the walk that cleans is the end, whatever it has found.
func TestCleaned(t *testing.T) {
	for _, found := range []int{-1, 0, 5, math.MaxInt} {
		for n := range 4 {
			w := lay(t, [2]uint64{2, in})
			x := take.Take{Op: 4, Own: n&1 == 1, Phase: 5, Want: 9, Won: n&2 == 2, Walk: walk.Walk{Key: 2, Mode: walk.Seek, Phase: 3, Found: found, Done: true}}
			want := x
			want.Done = true
			checkStill(t, w, x, want, 0, found, n)
			x.Walk.Done, x.Walk.Phase = false, -1
			want.Walk.Phase = -1
			checkStill(t, w, x, want, 0, found, n)
		}
	}
}

// P12.2: to settle is done where the word is Open; whether or not that is so, it is asked once more.
func TestSettle(t *testing.T) {
	for _, word := range words {
		for _, wanted := range words {
			w := lay(t, [2]uint64{2, in})
			op := remove(t, w, 1, 2, word)
			x := take.Take{Op: op, Own: true, Phase: 2, Want: wanted, Won: wanted == 2, Walk: walk.Walk{Key: 2, Found: 1, Done: true}}
			want := x
			want.Phase = 0
			if word == open {
				checkTurn(t, w, x, want, op, wanted, word)
				continue
			}
			checkStill(t, w, x, want, 1, word, wanted)
		}
	}
	for _, op := range []int{-1, 8, 1 << 32, 1<<32 + 4, math.MinInt, math.MaxInt} {
		w := lay(t, [2]uint64{2, in})
		checkStill(t, w, take.Take{Op: op, Phase: 2, Want: target}, take.Take{Op: op, Want: target}, 0, op)
	}
}

// P12.2: to take out is done where the target is in; whether or not that is so, it is asked whose that is.
func TestTakeOut(t *testing.T) {
	for _, word := range words {
		for _, op := range some {
			w := lay(t, [2]uint64{2, in}, [2]uint64{4, word})
			by := uint64(0)
			if 0 <= op && op < 1<<31 {
				by = out + uint64(op)
			}
			x := take.Take{Op: op, Own: true, Phase: 3, Want: target + 1, Won: word == 3, Walk: walk.Walk{Key: 4, Found: 1, Done: true}}
			want := x
			want.Phase = 4
			if word == in {
				checkTurn(t, w, x, want, 1, by, op)
				continue
			}
			checkStill(t, w, x, want, 1, word, op)
		}
	}
}

// P12.2: the target is that of what is wanted; of what names no operation that there is there is none, and no step.
func TestTakeOutOfNone(t *testing.T) {
	for _, wanted := range []uint64{0, 1, 10, 1<<31 + 1, 1<<31 + 2, 1<<32 + 2, 1<<32 + 3, 1 << 63, math.MaxUint64, math.MaxUint64 - 1} {
		w := lay(t, [2]uint64{2, in}, [2]uint64{4, in})
		x := take.Take{Op: 4, Own: true, Phase: 3, Want: wanted, Won: true, Walk: walk.New(2, walk.Seek)}
		want := x
		want.Phase = 4
		checkStill(t, w, x, want, 0, wanted)
	}
	for op := range 8 {
		w := lay(t, [2]uint64{2, in})
		w.Turn(op, 0, in)
		x := take.Take{Op: 3, Phase: 3, Want: target + uint64(op)}
		want := x
		want.Phase = 4
		checkTurn(t, w, x, want, op, out+3, op)
	}
}

// P12.2: who is named by the target's word has won; whose own that is goes on to clean.
func TestAskWhose(t *testing.T) {
	for _, op := range []int{0, 1, 4, 7, 1<<31 - 1, -1, 1 << 31, math.MinInt} {
		for _, word := range append([]uint64{out + uint64(op), out + uint64(op) + 1, out + uint64(op) - 1, target + uint64(op)}, words...) {
			for n := range 4 {
				w := lay(t, [2]uint64{2, in}, [2]uint64{4, 0})
				w.Turn(1, 0, word)
				x := take.Take{Op: op, Own: n&1 == 1, Phase: 4, Want: target + 1, Won: n&2 == 2, Walk: walk.Walk{Key: 9, Found: 1, Done: true}}
				want := x
				want.Won = op == -1 && (word < out || word-out >= 1<<31) || op >= 0 && op < 1<<31 && word == out+uint64(op)
				if want.Won && x.Own {
					call, _ := w.Book.Call(op)
					want.Walk, want.Phase = walk.Walk{Key: call.Key, Mode: walk.Clean, Seen: -1, Found: -1}, 5
				} else {
					want.Done = true
				}
				checkStill(t, w, x, want, 1, op, word, n)
			}
		}
	}
}

// P12.2: where what is wanted names no operation that there is the word is 0, and by no step.
func TestAskWhoseOfNone(t *testing.T) {
	for _, wanted := range []uint64{0, 1, 10, 1<<31 + 1, 1<<31 + 2, 1<<32 + 2, 1 << 63, math.MaxUint64} {
		for _, op := range []int{0, 4, 7} {
			w := lay(t, [2]uint64{2, out + uint64(op)})
			x := take.Take{Op: op, Own: true, Phase: 4, Want: wanted, Won: true, Walk: walk.New(2, walk.Seek)}
			want := x
			want.Won, want.Done = false, true
			checkStill(t, w, x, want, 0, wanted, op)
		}
	}
}

// P12.2, P12.3, the example: of nothing, step by step.
func TestOfNothing(t *testing.T) {
	for _, own := range []bool{false, true} {
		w := fresh(t, small)
		op := remove(t, w, 1, 4, open)
		x, steps := take.New(op, own), w.Cells.Steps()
		for n, phase := range []int{1, 2, 0, 0} {
			check(t, "whether it is done", x.Done, false, n)
			x = take.Step(w, x)
			check(t, "the phase", x.Phase, phase, n)
			check(t, "steps", w.Cells.Steps()-steps, n+1)
		}
		check(t, "the delete", x, take.Take{Op: 4, Own: own, Want: absent, Walk: walk.Walk{Key: 4, Mode: walk.Seek, Pred: 1, Seen: -1, Found: -1, Done: true}, Done: true})
		check(t, "the word", w.Word(op), absent)
		checkChain(t, w)
	}
}

// P12.3, the example: of nothing, whatever the key, the layout and the thread are, by 4 steps; and what has another bucket is nothing of its own.
func TestOfEmptyBuckets(t *testing.T) {
	for _, c := range []api.Conf{small, {Threads: 1, Buckets: 1, Calls: 1}, {Threads: 3, Buckets: 8, Inserts: 2, Calls: 2}, {Threads: 8, Buckets: 64, Inserts: 256, Fuel: 65536, Calls: 256}} {
		for _, key := range []uint64{0, 1, 2, 3, 1 << 63, math.MaxUint64} {
			w := fresh(t, c)
			op := remove(t, w, c.Threads-1, key, open)
			x, steps := run(w, take.New(op, true))
			check(t, "steps", steps, 4, key, c)
			check(t, "the word", w.Word(op), absent, key, c)
			check(t, "whether it is done", x.Done, true, key, c)
			check(t, "whether it won", x.Won, false, key, c)
		}
	}
}

// P12.2, P12.3: whose own delete it is takes the pair out, and unlinks its node, step by step.
func TestOwn(t *testing.T) {
	w := lay(t, [2]uint64{2, in}, [2]uint64{4, in})
	op := remove(t, w, 1, 2, open)
	x, steps := take.New(op, true), w.Cells.Steps()
	for n, phase := range []int{1, 1, 1, 2, 0, 3, 4, 5, 5, 5, 5, 5, 5, 5} {
		check(t, "whether it is done", x.Done, false, n)
		check(t, "whether it won", x.Won, n >= 8, n)
		check(t, "whether it is there", len(look.Pairs(w)) == 2, n < 7, n)
		x = take.Step(w, x)
		check(t, "the phase", x.Phase, phase, n)
		check(t, "steps", w.Cells.Steps()-steps, n+1)
		check(t, "whether it is sound", look.Sound(w), true, n)
	}
	clean := walk.Walk{Key: 2, Mode: walk.Clean, Phase: 2, Pred: 1, Curr: 3, Next: 7, Seen: -1, Found: -1, Done: true}
	check(t, "the delete", x, take.Take{Op: 4, Own: true, Phase: 5, Want: target, Walk: clean, Done: true, Won: true})
	check(t, "the word", w.Word(op), target)
	check(t, "the word of the insert", w.Word(0), out+4)
	checkChain(t, w, 3)
	checkPairs(t, w, api.Pair{Key: 4, Val: 40})
}

// P12.2, P12.3: whose own delete it isn't wins, too, and leaves the node; whose own it is unlinks it then.
func TestHelped(t *testing.T) {
	w := lay(t, [2]uint64{2, in}, [2]uint64{4, in})
	op := remove(t, w, 1, 4, open)
	x, steps := run(w, take.New(op, false))
	seek := walk.Walk{Key: 4, Mode: walk.Seek, Phase: 3, Pred: 2, Curr: 3, Seen: -1, Found: 1, Stop: true, Done: true}
	check(t, "the delete", x, take.Take{Op: 4, Phase: 4, Want: target + 1, Walk: seek, Done: true, Won: true})
	check(t, "steps", steps, 10)
	checkChain(t, w, 2, 3)
	checkPairs(t, w, api.Pair{Key: 2, Val: 20})
	x, steps = run(w, take.New(op, false))
	check(t, "whether it won", x.Won, true)
	check(t, "steps", steps, 3)
	checkChain(t, w, 2, 3)
	x, steps = run(w, take.New(op, true))
	check(t, "whether it won", x.Won, true)
	check(t, "steps", steps, 11)
	checkChain(t, w, 2)
	check(t, "whether it is sound", look.Sound(w), true)
}

// P12.3: of others, whose keys are near, none is taken out, and none is unlinked that isn't over.
func TestBetweenOthers(t *testing.T) {
	for key := range uint64(9) {
		w := lay(t, [2]uint64{1, in}, [2]uint64{4, failed}, [2]uint64{4, in}, [2]uint64{7, in})
		op := remove(t, w, 1, key, open)
		x, _ := run(w, take.New(op, true))
		there := key == 1 || key == 4 || key == 7
		check(t, "whether it is done", x.Done, true, key)
		check(t, "whether it won", x.Won, there, key)
		check(t, "whether it is sound", look.Sound(w), true, key)
		want := []api.Pair{{Key: 1, Val: 10}, {Key: 4, Val: 40}, {Key: 7, Val: 70}}
		want = slices.DeleteFunc(want, func(p api.Pair) bool { return p.Key == key })
		checkPairs(t, w, want...)
		nodes := len(want)
		if key < 4 {
			nodes++ // nobody came by the one that is over
		}
		check(t, "how many nodes", len(look.Chain(w, 0)), nodes, key)
	}
}

// P12.2: of an insert that is pending there is no pair, and it stays as it is.
func TestOfPending(t *testing.T) {
	w := lay(t, [2]uint64{2, in}, [2]uint64{4, pending}, [2]uint64{4, pending})
	op := remove(t, w, 1, 4, open)
	x, steps := run(w, take.New(op, true))
	check(t, "whether it is done", x.Done, true)
	check(t, "whether it won", x.Won, false)
	check(t, "steps", steps, 8)
	check(t, "the word", w.Word(op), absent)
	check(t, "the word of the insert", w.Word(1), pending)
	checkChain(t, w, 2, 3, 4)
}

// P12.2: one that was settled before goes by that, whatever is there by now.
func TestSettledBefore(t *testing.T) {
	w := lay(t, [2]uint64{4, in})
	check(t, "the delete", goOn(w, take.New(remove(t, w, 1, 4, absent), true), 9), take.Take{Op: 4, Own: true, Want: absent, Done: true})
	checkPairs(t, w, api.Pair{Key: 4, Val: 40})
	w = lay(t, [2]uint64{4, out + 6}, [2]uint64{4, in})
	check(t, "the delete", goOn(w, take.New(remove(t, w, 1, 4, target), true), 9), take.Take{Op: 4, Own: true, Phase: 4, Want: target, Done: true})
	checkPairs(t, w, api.Pair{Key: 4, Val: 40})
}

// P12.2: what another thread settled meanwhile holds, not what this one's walk has found.
func TestSettledMeanwhile(t *testing.T) {
	w := lay(t, [2]uint64{4, in})
	op := remove(t, w, 1, 4, open)
	x := goOn(w, take.New(op, true), 4)
	check(t, "what is wanted", x.Want, target)
	w.Turn(op, open, absent)
	x, steps := run(w, x)
	check(t, "steps", steps, 2)
	check(t, "whether it won", x.Won, false)
	checkPairs(t, w, api.Pair{Key: 4, Val: 40})

	w = lay(t, [2]uint64{4, pending})
	op = remove(t, w, 1, 4, open)
	x = goOn(w, take.New(op, true), 4)
	check(t, "what is wanted", x.Want, absent)
	w.Turn(0, pending, in)
	y, _ := run(w, take.New(op, false))
	x, _ = run(w, x)
	check(t, "whether the other one won", y.Won, true)
	check(t, "whether it won", x.Won, true)
	checkPairs(t, w)
	checkChain(t, w)
}

// P12.3: of two deletes of one pair that settled on it that one wins that takes it out first.
func TestOfTwoOneWins(t *testing.T) {
	for late := range 2 {
		w := lay(t, [2]uint64{4, in})
		first, second := remove(t, w, 0, 4, open), remove(t, w, 1, 4, open)
		x, y := goOn(w, take.New(first, true), 5), goOn(w, take.New(second, true), 5)
		check(t, "what both settled on", [2]uint64{w.Word(first), w.Word(second)}, [2]uint64{target, target})
		if late == 0 {
			x, _ = run(w, x)
			y, _ = run(w, y)
		} else {
			y, _ = run(w, y)
			x, _ = run(w, x)
		}
		check(t, "who won", [2]bool{x.Won, y.Won}, [2]bool{late == 0, late == 1})
		checkChain(t, w)
	}
}

// R3: a delete that was told stays, and one that is handed in once more goes the same way.
func TestTakesAreValues(t *testing.T) {
	w, again := lay(t, [2]uint64{4, in}), lay(t, [2]uint64{4, in})
	op := remove(t, w, 1, 4, open)
	remove(t, again, 1, 4, open)
	begun := goOn(w, take.New(op, true), 3)
	goOn(again, take.New(op, true), 3)
	kept := begun
	first, _ := run(w, begun)
	second, _ := run(again, begun)
	check(t, "the delete", begun, kept)
	check(t, "the second one", second, first)
}
