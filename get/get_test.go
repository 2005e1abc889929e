package get_test

import (
	"math"
	"slices"
	"testing"

	"corrie/api"
	"corrie/book"
	"corrie/cells"
	"corrie/get"
	"corrie/look"
	"corrie/walk"
	"corrie/world"
)

// small is a layout of two threads and one bucket: node 0, the head 1, the nodes 2 to 9 of thread 0, 10 to 17 of thread 1, and the operations 0 to 3 and 4 to 7.
var small = api.Conf{Threads: 2, Buckets: 1, Inserts: 4, Fuel: 5, Calls: 4}

// Words of inserts; out is that of one that operation 0 took out.
const (
	pending = 0
	in      = 1
	failed  = 2
	out     = 3
)

// Words of gets; target is that of one that found operation 0.
const (
	open   = 0
	absent = 1
	target = 2
)

// fresh is a new world of a layout that may be.
func fresh(t *testing.T, c api.Conf) *world.World {
	t.Helper()
	w, e := world.New(c)
	if e != api.OK {
		t.Fatalf("New of %+v is an error, %d", c, e)
	}
	return w
}

// begin is a call by a thread, whose operation has that word.
func begin(t *testing.T, w *world.World, thread int, call api.Call, word uint64) int {
	t.Helper()
	op, e := w.Book.Begin(thread, call)
	if e != api.OK {
		t.Fatalf("Begin of %+v is an error, %d", call, e)
	}
	w.Turn(op, 0, word)
	return op
}

// insert is one of a key by a thread, ask a get of it, remove a delete.
func insert(t *testing.T, w *world.World, thread int, key, word uint64) int {
	t.Helper()
	return begin(t, w, thread, api.Call{Kind: api.Insert, Key: key, Val: 10*key + uint64(thread)}, word)
}

func ask(t *testing.T, w *world.World, thread int, key, word uint64) int {
	t.Helper()
	return begin(t, w, thread, api.Call{Kind: api.Get, Key: key, Val: 77}, word)
}

func remove(t *testing.T, w *world.World, thread int, key, word uint64) int {
	t.Helper()
	return begin(t, w, thread, api.Call{Kind: api.Delete, Key: key, Val: 77}, word)
}

// carry makes a node of thread 0 that carries an operation.
func carry(t *testing.T, w *world.World, op int) int {
	t.Helper()
	node, e := w.Book.Make(0, op)
	if e != api.OK {
		t.Fatalf("Make of %d is an error, %d", op, e)
	}
	return node
}

// chain lays nodes one behind the other, behind a head. One below 0 is marked.
func chain(w *world.World, head int, nodes ...int) {
	at, marked := head, uint64(0)
	for _, node := range append(slices.Clone(nodes), 0) {
		behind := uint64(0)
		if node < 0 {
			node, behind = -node, 1
		}
		w.Set(at, 2*uint64(node)+marked)
		at, marked = node, behind
	}
}

// lay is a world of the layout small, with the nodes 2, 3 and so on of the operations 0, 1 and so on: inserts of these keys and words by thread 0.
func lay(t *testing.T, inserts ...[2]uint64) *world.World {
	t.Helper()
	w := fresh(t, small)
	var nodes []int
	for _, i := range inserts {
		nodes = append(nodes, carry(t, w, insert(t, w, 0, i[0], i[1])))
	}
	chain(w, 1, nodes...)
	return w
}

func check[T comparable](t *testing.T, name string, got, want T, of ...any) {
	if got != want {
		t.Helper()
		t.Errorf("%s is %+v, not %+v: %+v", name, got, want, of)
	}
}

func checkChain(t *testing.T, w *world.World, want ...int) {
	t.Helper()
	if got := look.Chain(w, 0); !slices.Equal(got, want) {
		t.Errorf("the nodes are %v, not %v", got, want)
	}
}

func checkPairs(t *testing.T, w *world.World, want ...api.Pair) {
	t.Helper()
	if got := look.Pairs(w); !slices.Equal(got, want) {
		t.Errorf("the pairs are %v, not %v", got, want)
	}
}

func peekAll(w *world.World) []uint64 {
	var all []uint64
	for at := range w.Cells.Len() {
		all = append(all, w.Cells.Peek(at))
	}
	return all
}

// run goes on until it is done, or too long, and tells how many steps of the world that were.
func run(w *world.World, x get.Get) (last get.Get, steps int) {
	before := w.Cells.Steps()
	for calls := 0; calls < 2000 && !x.Done; calls++ {
		x = get.Step(w, x)
	}
	return x, w.Cells.Steps() - before
}

// goOn goes so many calls of Step further.
func goOn(w *world.World, x get.Get, calls int) get.Get {
	for range calls {
		x = get.Step(w, x)
	}
	return x
}

// checkStep holds what a step comes to, and how many steps of the world it is, against what is asked.
func checkStep(t *testing.T, w *world.World, x, want get.Get, steps int, of ...any) {
	t.Helper()
	before, made := w.Cells.Steps(), w.Book.Made(0)+w.Book.Made(1)
	check(t, "Step", get.Step(w, x), want, of...)
	check(t, "steps", w.Cells.Steps()-before, steps, of...)
	check(t, "how many nodes were made", w.Book.Made(0)+w.Book.Made(1), made, of...)
}

// checkStill is checkStep of a step that changes no cell.
func checkStill(t *testing.T, w *world.World, x, want get.Get, steps int, of ...any) {
	t.Helper()
	all := peekAll(w)
	checkStep(t, w, x, want, steps, of...)
	check(t, "whether cells stayed", slices.Equal(peekAll(w), all), true, of...)
}

// checkTurn is checkStep of a step of the world that lays the word of an operation, and no other cell.
func checkTurn(t *testing.T, w *world.World, x, want get.Get, op int, word uint64, of ...any) {
	t.Helper()
	all := peekAll(w)
	all[18+op] = word
	checkStep(t, w, x, want, 1, of...)
	if got := peekAll(w); !slices.Equal(got, all) {
		t.Errorf("the cells are %v, not %v: %+v", got, all, of)
	}
}

// some are numbers of what there is in the layout small, and isn't: cut short, or as products, some of those that there aren't would be.
var some = []int{-1, 0, 1, 2, 5, 6, 7, 8, 17, 18, 25, 1<<31 - 1, 1 << 31, 1<<32 + 5, 1 << 62, math.MaxInt, math.MinInt, -5}

// words are some of gets, and of inserts.
var words = []uint64{0, 1, 2, 3, 4, 7, 9, 10, 1<<31 + 1, 1<<31 + 2, 1 << 32, 1<<32 + 1, 1<<32 + 2, 1<<32 + 3, 1 << 63, math.MaxUint64 - 1, math.MaxUint64}

// phases are those that there are, and others.
var phases = []int{0, 1, 2, 3, 4, 5, 6, 7, 255, 256, 1 << 32, 1<<32 + 1, math.MaxInt, -1, -2, -3, -6, -1 << 32, math.MinInt}

// everyGet tells gets of that phase, and of all numbers, those that there aren't, too.
func everyGet(phase int, do func(x get.Get)) {
	for n, number := range some {
		x := get.Get{Op: number, Phase: phase, Want: words[n%len(words)], Found: some[n*5%len(some)]}
		x.Walk = walk.Walk{Key: uint64(n % 3), Mode: n % 5, Phase: n%10 - 1, Pred: some[(n+3)%len(some)], Curr: some[(n+11)%len(some)], Next: uint64(2 * some[(n+5)%len(some)]), Seen: some[n*3%len(some)], Found: n - 1, Stop: n%2 == 1, Done: n%4 == 1}
		do(x)
		x.Found, x.Walk.Curr, x.Want = -1, 0, words[(n+3)%len(words)]
		do(x)
	}
}

// P13.1: of any operation there is a get that hasn't begun, and has found nothing.
func TestNew(t *testing.T) {
	for _, op := range some {
		check(t, "New", get.New(op), get.Get{Op: op, Found: -1}, op)
	}
}

// P13.2: a get that is done stays as it is, whatever its fields are, and nothing is done.
func TestDoneStays(t *testing.T) {
	w := lay(t, [2]uint64{0, failed}, [2]uint64{2, in}, [2]uint64{2, pending})
	for _, phase := range phases {
		everyGet(phase, func(x get.Get) {
			x.Done = true
			checkStill(t, w, x, x, 0)
			check(t, "Step of nil", get.Step(nil, x), x)
		})
	}
}

// P13.2: where a world is nil a get stays as it is, of phases that there aren't, too.
func TestNilStays(t *testing.T) {
	for _, phase := range phases {
		everyGet(phase, func(x get.Get) {
			check(t, "Step", get.Step(nil, x), x)
		})
	}
}

// P13.2: of another phase Done is set, and nothing else, without a step.
func TestOtherPhases(t *testing.T) {
	w := lay(t, [2]uint64{0, failed}, [2]uint64{2, in}, [2]uint64{2, pending})
	for _, phase := range phases {
		if 0 <= phase && phase <= 2 {
			continue
		}
		everyGet(phase, func(x get.Get) {
			want := x
			want.Done = true
			checkStill(t, w, x, want, 0)
		})
	}
}

// P1: no get panics of a world that was put together of what there isn't.
func TestWorldsWithoutMuch(t *testing.T) {
	full := lay(t, [2]uint64{2, in})
	var none *book.Book
	for _, w := range []*world.World{
		{},
		{C: small},
		{C: small, Book: full.Book},
		{C: small, Cells: full.Cells, Book: none},
		{C: small, Cells: cells.New(-1), Book: full.Book},
		{Cells: full.Cells, Book: full.Book},
		{C: api.Conf{Threads: 1, Buckets: -1, Calls: 1}, Cells: full.Cells, Book: full.Book},
	} {
		for _, phase := range phases {
			everyGet(phase, func(x get.Get) { goOn(w, x, 3) })
		}
	}
}

// found is what a word of a get tells.
func found(word uint64) int {
	if word < target || word-target >= 1<<31 {
		return -1
	}
	return int(word - target)
}

// P13.2: to ask tells the operation's word, and by it what comes then: a walk anew, or the end, and what was found.
func TestAsk(t *testing.T) {
	for _, word := range words {
		for _, before := range []int{-1, 0, 5, math.MaxInt} {
			w := lay(t, [2]uint64{1, in})
			op := ask(t, w, 1, 7, word)
			x := get.Get{Op: op, Want: 5, Found: before}
			x.Walk = walk.Walk{Key: 5, Mode: walk.Decide, Phase: 3, Pred: 2, Curr: 3, Next: 8, Seen: 4, Found: 6, Stop: true, Done: true}
			want := x
			want.Want = word
			if word == open {
				want.Walk, want.Phase = walk.Walk{Key: 7, Mode: walk.Seek, Seen: -1, Found: -1}, 1
			} else {
				want.Done, want.Found = true, found(word)
			}
			checkStill(t, w, x, want, 1, word, before)
		}
	}
}

// P13.2: whatever kind of call an operation is of, its word is asked, and its key is gone to.
func TestAskOfOtherKinds(t *testing.T) {
	for kind := 1; kind <= 4; kind++ {
		for _, key := range []uint64{0, 1, 7, 1 << 63, math.MaxUint64} {
			w := lay(t, [2]uint64{1, in})
			op := begin(t, w, 1, api.Call{Kind: kind, Key: key, Val: 3, Limit: 2}, open)
			x := get.New(op)
			want := x
			want.Walk, want.Phase = walk.Walk{Key: key, Mode: walk.Seek, Seen: -1, Found: -1}, 1
			checkStill(t, w, x, want, 1, kind, key)
		}
	}
}

// P13.2: where an operation wasn't written down the key is 0; where there is no such one its word is 0, by no step.
func TestAskOfNone(t *testing.T) {
	for _, op := range []int{7, -1, 8, 1 << 32, 1<<32 + 5, math.MaxInt, math.MinInt} {
		w := lay(t, [2]uint64{7, in})
		steps := 0
		if op == 7 {
			steps = 1
		}
		x := get.Get{Op: op, Want: 5, Walk: walk.New(7, walk.Clean), Found: 3}
		want := x
		want.Want, want.Phase, want.Walk = open, 1, walk.Walk{Mode: walk.Seek, Seen: -1, Found: -1}
		checkStill(t, w, x, want, steps, op)
	}
}

// P13.2: of the phase that walks the walk alone is one step further, as long as it isn't over.
func TestWalks(t *testing.T) {
	w := lay(t, [2]uint64{2, failed}, [2]uint64{7, in})
	x := get.Get{Op: 1, Phase: 1, Want: 9, Found: 6, Walk: walk.New(2, walk.Clean)}
	for _, stage := range []walk.Walk{
		{Phase: 1, Pred: 1, Curr: 2, Seen: -1},          // begun
		{Phase: 3, Pred: 1, Curr: 2, Next: 6, Seen: -1}, // peeked
		{Phase: 4, Pred: 1, Curr: 2, Next: 6, Seen: -1}, // over
		{Phase: 1, Pred: 1, Curr: 2, Next: 6, Seen: -1}, // marked
		{Phase: 2, Pred: 1, Curr: 2, Next: 7, Seen: -1}, // to be unlinked
	} {
		want := x
		stage.Key, stage.Mode, stage.Found = 2, walk.Clean, -1
		want.Walk = stage
		checkStep(t, w, x, want, 1, stage)
		x = want
	}
	want := x
	want.Walk = walk.Walk{Key: 2, Mode: walk.Clean, Phase: 2, Pred: 1, Curr: 3, Next: 7, Seen: -1, Found: -1, Done: true}
	want.Want, want.Phase = absent, 2
	checkStep(t, w, x, want, 1)
	checkChain(t, w, 3)
}

// P13.2: what the walk has found is what is wanted: it, or that there is none.
func TestFound(t *testing.T) {
	for _, f := range []struct {
		found int
		want  uint64
	}{{-1, absent}, {0, target}, {1, target + 1}, {7, target + 7}, {8, target + 8}, {1<<31 - 1, 1<<31 + 1}, {1 << 31, 0}, {1<<32 - 1, 0}, {-2, 0}, {math.MinInt, 0}, {math.MaxInt, 0}} {
		for _, before := range []int{-1, 0, 5} {
			w := lay(t, [2]uint64{2, in})
			x := get.Get{Op: 4, Phase: 1, Want: 9, Found: before, Walk: walk.Walk{Key: 2, Mode: walk.Seek, Phase: 3, Found: f.found, Done: true}}
			want := x
			want.Want, want.Phase = f.want, 2
			checkStill(t, w, x, want, 0, f, before)
			x.Walk.Done, x.Walk.Phase = false, 8
			want.Walk.Phase = 8
			checkStill(t, w, x, want, 0, f, before)
		}
	}
}

// P13.2: the walk finds who is in, and stops at whoever is pending, and finds none then.
func TestFoundByTheWalk(t *testing.T) {
	for word, want := range map[uint64]uint64{pending: absent, in: target + 1} {
		w := lay(t, [2]uint64{2, in}, [2]uint64{4, word}, [2]uint64{4, pending})
		op := ask(t, w, 1, 4, open)
		x := goOn(w, get.New(op), 5)
		check(t, "the phase", x.Phase, 1)
		check(t, "whether the walk is done", x.Walk.Done, false)
		x = get.Step(w, x)
		check(t, "the phase", x.Phase, 2)
		check(t, "whether the walk is stopped", x.Walk.Stop, true)
		check(t, "what is wanted", x.Want, want, word)
		check(t, "what was found", x.Found, -1)
		check(t, "the word", w.Word(op), open)
	}
}

// P13.2: to settle is done where the word is Open; whether or not that is so, it is asked once more.
func TestSettle(t *testing.T) {
	for _, word := range words {
		for n, wanted := range words {
			w := lay(t, [2]uint64{2, in})
			op := ask(t, w, 1, 2, word)
			x := get.Get{Op: op, Phase: 2, Want: wanted, Found: n - 1, Walk: walk.Walk{Key: 2, Found: 1, Done: true}}
			want := x
			want.Phase = 0
			if word == open {
				checkTurn(t, w, x, want, op, wanted, word)
				continue
			}
			checkStill(t, w, x, want, 1, word, wanted)
		}
	}
	for _, op := range []int{-1, 8, 1 << 32, 1<<32 + 4, math.MinInt, math.MaxInt} {
		w := lay(t, [2]uint64{2, in})
		checkStill(t, w, get.Get{Op: op, Phase: 2, Want: target}, get.Get{Op: op, Want: target}, 0, op)
	}
}

// P13.2, P13.3, the example: of nothing, step by step.
func TestOfNothing(t *testing.T) {
	w := fresh(t, small)
	op := ask(t, w, 1, 4, open)
	x, steps := get.New(op), w.Cells.Steps()
	for n, phase := range []int{1, 2, 0, 0} {
		check(t, "whether it is done", x.Done, false, n)
		x = get.Step(w, x)
		check(t, "the phase", x.Phase, phase, n)
		check(t, "steps", w.Cells.Steps()-steps, n+1)
	}
	check(t, "the get", x, get.Get{Op: 4, Want: absent, Walk: walk.Walk{Key: 4, Mode: walk.Seek, Pred: 1, Seen: -1, Found: -1, Done: true}, Done: true, Found: -1})
	check(t, "the word", w.Word(op), absent)
	checkChain(t, w)
}

// P13.3, the example: of nothing, whatever the key, the layout and the thread are, by 4 steps.
func TestOfEmptyBuckets(t *testing.T) {
	for _, c := range []api.Conf{small, {Threads: 1, Buckets: 1, Calls: 1}, {Threads: 3, Buckets: 8, Inserts: 2, Calls: 2}, {Threads: 8, Buckets: 64, Inserts: 256, Fuel: 65536, Calls: 256}} {
		for _, key := range []uint64{0, 1, 2, 3, 1 << 63, math.MaxUint64} {
			w := fresh(t, c)
			op := ask(t, w, c.Threads-1, key, open)
			x, steps := run(w, get.New(op))
			check(t, "steps", steps, 4, key, c)
			check(t, "the word", w.Word(op), absent, key, c)
			check(t, "whether it is done", x.Done, true, key, c)
			check(t, "what it found", x.Found, -1, key, c)
		}
	}
}

// P13.2, P13.3: of a pair, step by step: it is found, and stays as it is.
func TestOfAPair(t *testing.T) {
	w := lay(t, [2]uint64{2, in}, [2]uint64{4, in})
	op := ask(t, w, 1, 4, open)
	x, steps := get.New(op), w.Cells.Steps()
	for n, phase := range []int{1, 1, 1, 1, 1, 2, 0, 0} {
		check(t, "whether it is done", x.Done, false, n)
		check(t, "what it found", x.Found, -1, n)
		x = get.Step(w, x)
		check(t, "the phase", x.Phase, phase, n)
		check(t, "steps", w.Cells.Steps()-steps, n+1)
	}
	seek := walk.Walk{Key: 4, Mode: walk.Seek, Phase: 3, Pred: 2, Curr: 3, Seen: -1, Found: 1, Stop: true, Done: true}
	check(t, "the get", x, get.Get{Op: 4, Want: target + 1, Walk: seek, Done: true, Found: 1})
	check(t, "the word", w.Word(op), target+1)
	checkChain(t, w, 2, 3)
	checkPairs(t, w, api.Pair{Key: 2, Val: 20}, api.Pair{Key: 4, Val: 40})
}

// P13.3: done once more, by whomever, it finds the same, by one step, whatever came after it.
func TestOnceMore(t *testing.T) {
	for key, want := range map[uint64]int{2: 0, 3: -1, 4: 2} {
		w := lay(t, [2]uint64{2, in}, [2]uint64{4, failed}, [2]uint64{4, in})
		op := ask(t, w, 1, key, open)
		first, _ := run(w, get.New(op))
		check(t, "what it found", first.Found, want, key)
		w.Turn(0, in, out)
		w.Turn(2, in, out)
		w.Set(1, 2*uint64(carry(t, w, insert(t, w, 0, 3, in))))
		for range 3 {
			x, steps := run(w, get.New(op))
			check(t, "the get", x, get.Get{Op: op, Want: uint64(want + 2), Done: true, Found: want}, key)
			check(t, "steps", steps, 1, key)
		}
	}
}

// P13.3: among others, whose keys are near, its key's operation is found, just if there is a pair.
func TestBetweenOthers(t *testing.T) {
	want := map[uint64]int{1: 0, 4: 2, 7: 3}
	for key := range uint64(9) {
		w := lay(t, [2]uint64{1, in}, [2]uint64{4, failed}, [2]uint64{4, in}, [2]uint64{7, in})
		op := ask(t, w, 1, key, open)
		x, _ := run(w, get.New(op))
		check(t, "whether it is done", x.Done, true, key)
		there, ok := want[key]
		check(t, "what it found", x.Found, map[bool]int{true: there, false: -1}[ok], key)
		check(t, "whether it is sound", look.Sound(w), true, key)
		checkPairs(t, w, api.Pair{Key: 1, Val: 10}, api.Pair{Key: 4, Val: 40}, api.Pair{Key: 7, Val: 70})
		check(t, "how many nodes", len(look.Chain(w, 0)), map[bool]int{true: 4, false: 3}[key < 4], key)
	}
}

// P13.3: the least key and the greatest one are found as others are.
func TestOutermostKeys(t *testing.T) {
	w := lay(t, [2]uint64{0, in}, [2]uint64{1, in}, [2]uint64{math.MaxUint64 - 1, in}, [2]uint64{math.MaxUint64, in})
	for n, key := range []uint64{0, 1, math.MaxUint64 - 1, math.MaxUint64} {
		x, _ := run(w, get.New(ask(t, w, 1, key, open)))
		check(t, "what was found", x.Found, n, key)
	}
}

// P13.2, P13.3: of an insert that is pending, or over, there is no pair, and nothing is found; one that is pending stays so.
func TestOfNoPair(t *testing.T) {
	for _, f := range []struct {
		word         uint64
		steps, nodes int
	}{{pending, 8, 3}, {failed, 16, 1}, {out, 16, 1}} {
		w := lay(t, [2]uint64{2, in}, [2]uint64{4, f.word}, [2]uint64{4, failed})
		if f.word == pending {
			w.Turn(2, failed, pending)
		}
		op := ask(t, w, 1, 4, open)
		x, steps := run(w, get.New(op))
		check(t, "whether it is done", x.Done, true, f)
		check(t, "what it found", x.Found, -1, f)
		check(t, "steps", steps, f.steps, f)
		check(t, "the word", w.Word(op), absent, f)
		check(t, "the word of the insert", w.Word(1), f.word, f)
		check(t, "how many nodes", len(look.Chain(w, 0)), f.nodes, f)
		checkPairs(t, w, api.Pair{Key: 2, Val: 20})
	}
}

// P13.2: one that was settled before goes by that, whatever is there by now.
func TestSettledBefore(t *testing.T) {
	w := lay(t, [2]uint64{4, in}, [2]uint64{5, in})
	check(t, "the get", goOn(w, get.New(ask(t, w, 1, 4, absent)), 9), get.Get{Op: 4, Want: absent, Done: true, Found: -1})
	check(t, "the get", goOn(w, get.New(ask(t, w, 1, 4, target+1)), 9), get.Get{Op: 5, Want: target + 1, Done: true, Found: 1})
	check(t, "the get", goOn(w, get.New(ask(t, w, 1, 4, math.MaxUint64)), 9), get.Get{Op: 6, Want: math.MaxUint64, Done: true, Found: -1})
	checkPairs(t, w, api.Pair{Key: 4, Val: 40}, api.Pair{Key: 5, Val: 50})
}

// P13.2: what another thread settled meanwhile holds, not what this one's walk has found.
func TestSettledMeanwhile(t *testing.T) {
	w := lay(t, [2]uint64{4, in})
	op := ask(t, w, 1, 4, open)
	x := goOn(w, get.New(op), 4)
	check(t, "what is wanted", x.Want, target)
	w.Turn(op, open, absent)
	x, steps := run(w, x)
	check(t, "steps", steps, 2)
	check(t, "what it found", x.Found, -1)

	w = lay(t, [2]uint64{4, pending})
	op = ask(t, w, 1, 4, open)
	x = goOn(w, get.New(op), 4)
	check(t, "what is wanted", x.Want, absent)
	w.Turn(0, pending, in)
	y, _ := run(w, get.New(op))
	x, steps = run(w, x)
	check(t, "steps", steps, 2)
	check(t, "what both found", [2]int{x.Found, y.Found}, [2]int{0, 0})
	checkPairs(t, w, api.Pair{Key: 4, Val: 40})
}

// P13.2: what was found holds though it is taken out ahead of the end.
func TestTakenOutMeanwhile(t *testing.T) {
	for calls := range 7 {
		w := lay(t, [2]uint64{4, in})
		op := ask(t, w, 1, 4, open)
		x := goOn(w, get.New(op), calls)
		w.Turn(0, in, out)
		x, _ = run(w, x)
		check(t, "what it found", x.Found, map[bool]int{true: -1, false: 0}[calls < 4], calls)
	}
}

// R3: a get that was told stays, and one that is handed in once more goes the same way.
func TestGetsAreValues(t *testing.T) {
	w, again := lay(t, [2]uint64{4, in}), lay(t, [2]uint64{4, in})
	op := ask(t, w, 1, 4, open)
	ask(t, again, 1, 4, open)
	begun := goOn(w, get.New(op), 3)
	goOn(again, get.New(op), 3)
	kept := begun
	first, _ := run(w, begun)
	second, _ := run(again, begun)
	check(t, "the get", begun, kept)
	check(t, "the second one", second, first)
}
