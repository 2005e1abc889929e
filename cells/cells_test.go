package cells_test

import (
	"math"
	"sync"
	"sync/atomic"
	"testing"

	"corrie/cells"
)

// far are numbers that are no cell's of a few cells: below 0, just behind them, and those that are within only where they are cut short, or where one wraps round.
var far = []int{
	math.MinInt, math.MinInt + 1, math.MinInt + 2, -1 << 62, -1<<32 - 1, -1 << 32, -1<<32 + 1, -1 << 31, -65536, -256, -4, -3, -2, -1,
	3, 4, 5, 255, 256, 65536, 1 << 20, 1<<20 + 1, 1<<31 - 1, 1 << 31, 1<<32 - 1, 1 << 32, 1<<32 + 1, 1 << 61, 1 << 62, math.MaxInt - 1, math.MaxInt,
}

// someWords are the least, the greatest, and those with one bit each.
func someWords() []uint64 {
	words := []uint64{0, 3, 5, 1<<32 - 1, 1<<63 - 1, 1<<63 + 1, math.MaxUint64 - 1, math.MaxUint64}
	for bit := range 64 {
		words = append(words, 1<<bit)
	}
	return words
}

// check holds what was told against what is asked.
func check[T comparable](t *testing.T, name string, got, want T, of ...any) {
	t.Helper()
	if got != want {
		t.Errorf("%s of %v is %v, not %v", name, of, got, want)
	}
}

// checkWords holds all cells and the count of steps against what is asked, without a step.
func checkWords(t *testing.T, c *cells.Cells, steps int, words ...uint64) {
	t.Helper()
	check(t, "Len", c.Len(), len(words))
	for at, w := range words {
		check(t, "Peek", c.Peek(at), w, at)
	}
	check(t, "Steps", c.Steps(), steps)
}

// together runs so many threads of one thing, and ends when all have.
func together(threads int, do func(thread int)) {
	var all sync.WaitGroup
	for thread := range threads {
		all.Go(func() { do(thread) })
	}
	all.Wait()
}

// P6.1: so many cells, at the bounds, and none beyond them.
func TestHowMany(t *testing.T) {
	for many, want := range map[int]int{
		0: 0, 1: 1, 2: 2, 3: 3, 25: 25, 6217: 6217, 65536: 65536, 1<<20 - 1: 1<<20 - 1, 1 << 20: 1 << 20,
		1<<20 + 1: 0, 1<<20 + 2: 0, 1 << 21: 0, 1<<31 - 1: 0, 1 << 31: 0, 1 << 32: 0, 1<<32 + 1: 0, 1<<32 + 25: 0, 1 << 61: 0, 1<<61 + 1: 0, math.MaxInt: 0,
		-1: 0, -2: 0, -25: 0, -1 << 20: 0, -1 << 32: 0, -1<<32 + 1: 0, -1<<61 + 1: 0, math.MinInt: 0, math.MinInt + 25: 0,
	} {
		c := cells.New(many)
		if c == nil {
			t.Fatalf("New of %d is nil", many)
		}
		check(t, "Len", c.Len(), want, many)
		check(t, "Steps", c.Steps(), 0, many)
	}
}

// P6.1: each cell is 0 at first, and each of them is there; of no cells there is none.
func TestAllZeroAtFirst(t *testing.T) {
	for _, many := range []int{0, 1, 2, 25, 1000, 1 << 20} {
		c := cells.New(many)
		for at := range many {
			if c.Load(at) != 0 || c.Peek(at) != 0 {
				t.Fatalf("of %d cells, %d isn't 0", many, at)
			}
		}
		check(t, "Steps", c.Steps(), many, many)
		for _, at := range []int{many, -1} {
			c.Store(at, 7)
			check(t, "Load", c.Load(at), 0, many, at)
		}
		check(t, "Steps", c.Steps(), many, many)
	}
	for _, many := range []int{-1, 1<<20 + 1, math.MinInt, math.MaxInt} {
		c := cells.New(many)
		c.Store(0, 7)
		check(t, "Swap", c.Swap(0, 0, 7), false, many)
		check(t, "Load", c.Load(0), 0, many)
		checkWords(t, c, 0)
	}
}

// P6.1, P6.2: the last one of as many cells as there may be is one like others.
func TestLastCell(t *testing.T) {
	c := cells.New(1 << 20)
	c.Store(1<<20-1, 9)
	check(t, "Swap", c.Swap(1<<20-1, 9, 10), true)
	check(t, "Load", c.Load(1<<20-1), 10)
	check(t, "Load", c.Load(1<<20-2), 0)
	check(t, "Load", c.Load(0), 0)
	check(t, "Steps", c.Steps(), 5)
}

// P6.2: the chapter's example, and one thing after the other, each with how many steps there were.
func TestNamedSteps(t *testing.T) {
	c := cells.New(2)
	check(t, "Swap", c.Swap(0, 0, 5), true, 0, 0, 5)
	checkWords(t, c, 1, 5, 0)
	check(t, "Swap", c.Swap(0, 0, 5), false, 0, 0, 5)
	checkWords(t, c, 2, 5, 0)
	check(t, "Load", c.Load(0), 5, 0)
	checkWords(t, c, 3, 5, 0)
	check(t, "Load", c.Load(1), 0, 1)
	checkWords(t, c, 4, 5, 0)
	c.Store(1, 8)
	checkWords(t, c, 5, 5, 8)
	c.Store(1, 8)
	checkWords(t, c, 6, 5, 8)
	check(t, "Swap", c.Swap(1, 5, 6), false, 1, 5, 6)
	checkWords(t, c, 7, 5, 8)
	check(t, "Swap", c.Swap(1, 8, 8), true, 1, 8, 8)
	check(t, "Swap", c.Swap(1, 8, 8), true, 1, 8, 8)
	checkWords(t, c, 9, 5, 8)
	check(t, "Swap", c.Swap(1, 8, 0), true, 1, 8, 0)
	checkWords(t, c, 10, 5, 0)
	c.Store(0, 0)
	checkWords(t, c, 11, 0, 0)
	check(t, "Swap", c.Swap(0, 0, 0), true, 0, 0, 0)
	checkWords(t, c, 12, 0, 0)
	check(t, "Swap", c.Swap(0, 1, 0), false, 0, 1, 0)
	checkWords(t, c, 13, 0, 0)
}

// P6.2: words of all bits are told as they were laid, and a Swap asks for all bits of the old one.
func TestAllBits(t *testing.T) {
	c := cells.New(3)
	steps := 0
	for _, w := range someWords() {
		c.Store(1, w)
		check(t, "Load", c.Load(1), w, w)
		check(t, "Peek", c.Peek(1), w, w)
		steps += 2
		for bit := range 64 {
			check(t, "Swap", c.Swap(1, w^1<<bit, 77), false, w, bit)
			check(t, "Swap", c.Swap(1, w, w^1<<bit), true, w, bit)
			check(t, "Swap", c.Swap(1, w^1<<bit, w), true, w, bit)
			steps += 3
		}
		checkWords(t, c, steps, 0, w, 0)
	}
}

// P6.2: of a cell that there isn't a word is 0, no Swap is done, nothing is laid, and nothing is a step.
func TestCellsThatThereAreNot(t *testing.T) {
	c := cells.New(3)
	for at := range 3 {
		c.Store(at, uint64(10+at))
	}
	for _, at := range far {
		for _, w := range someWords() {
			c.Store(at, w)
			check(t, "Load", c.Load(at), 0, at)
			check(t, "Peek", c.Peek(at), 0, at)
			check(t, "Swap", c.Swap(at, 0, w), false, at, 0, w)
			check(t, "Swap", c.Swap(at, w, w), false, at, w, w)
			check(t, "Swap", c.Swap(at, w, 0), false, at, w, 0)
		}
		for _, w := range []uint64{10, 11, 12} {
			check(t, "Swap", c.Swap(at, w, 9), false, at, w, 9)
		}
		checkWords(t, c, 3, 10, 11, 12)
	}
}

// P6.2: neither Peek nor Len nor Steps is a step, of whatever cell.
func TestLookingOnIsNoStep(t *testing.T) {
	c := cells.New(2)
	c.Store(1, 4)
	for at := -2; at < 5; at++ {
		c.Peek(at)
		c.Len()
		check(t, "Steps", c.Steps(), 1, at)
	}
	checkWords(t, c, 1, 0, 4)
}

// P6.3: of Cells that are nil all is 0, false, and nothing, whatever is handed in.
func TestNil(t *testing.T) {
	var c *cells.Cells
	for _, at := range append([]int{0, 1, 2}, far...) {
		for _, w := range []uint64{0, 1, math.MaxUint64} {
			c.Store(at, w)
			check(t, "Load", c.Load(at), 0, at)
			check(t, "Peek", c.Peek(at), 0, at)
			check(t, "Swap", c.Swap(at, 0, w), false, at, w)
			check(t, "Swap", c.Swap(at, w, w), false, at, w)
			check(t, "Steps", c.Steps(), 0, at)
			check(t, "Len", c.Len(), 0, at)
		}
	}
}

// plain is what cells are to one thread: words without more.
type plain struct {
	words []uint64
	steps int
}

func (p *plain) has(at int) bool {
	return 0 <= at && at < len(p.words)
}

// stepBoth does the n-th thing of all that the model knows to both, and holds what they tell against each other; it tells how many things there are.
func stepBoth(t *testing.T, c *cells.Cells, p *plain, n int) int {
	t.Helper()
	const places, words = 4, 3
	at, old, w, kind := n%places-1, uint64(n/places%words), uint64(n/places/words%words), n/places/words/words
	var want uint64
	if p.has(at) {
		want = p.words[at]
		p.steps++
	}
	switch kind {
	case 0:
		check(t, "Load", c.Load(at), want, at)
	case 1:
		c.Store(at, w)
		if p.has(at) {
			p.words[at] = w
		}
	case 2:
		done := p.has(at) && want == old
		check(t, "Swap", c.Swap(at, old, w), done, at, old, w)
		if done {
			p.words[at] = w
		}
	}
	return places * words * words * 3
}

// P6.2, P6.4: a word is the one that was laid last, after all sequences of three things that may be done with two cells, the ones beside them, and three words.
func TestAllShortSequences(t *testing.T) {
	all := stepBoth(t, cells.New(2), &plain{words: make([]uint64, 2)}, 0)
	for n := range all * all * all {
		c, p := cells.New(2), &plain{words: make([]uint64, 2)}
		for _, thing := range []int{n % all, n / all % all, n / all / all} {
			stepBoth(t, c, p, thing)
		}
		checkWords(t, c, p.steps, p.words...)
		if t.Failed() {
			t.Fatalf("in sequence %d of %d", n, all*all*all)
		}
	}
}

// P6.2, P6.4: and after a long one.
func TestLongSequence(t *testing.T) {
	c, p := cells.New(2), &plain{words: make([]uint64, 2)}
	all, n := 1, uint64(1)
	for range 20000 {
		n = n*6364136223846793005 + 1442695040888963407
		all = stepBoth(t, c, p, int(n>>33)%all)
		checkWords(t, c, p.steps, p.words...)
		if t.Failed() {
			t.FailNow()
		}
	}
}

// P6.4: a Swap that is refused changes nothing, however often it is tried.
func TestRefusedSwaps(t *testing.T) {
	c := cells.New(3)
	for at, w := range []uint64{1, 2, 3} {
		c.Store(at, w)
	}
	for n := range uint64(100) {
		check(t, "Swap", c.Swap(1, n+3, 9), false, n)
		check(t, "Swap", c.Swap(1, 0, n), false, n)
		check(t, "Swap", c.Swap(1, 1, 2), false, n)
	}
	checkWords(t, c, 303, 1, 2, 3)
}

// P6.4: of Swaps of the same old word that many threads try one is done, and its word stands there; each was a step.
func TestOneSwapOfSeveral(t *testing.T) {
	const threads, many = 8, 500
	c := cells.New(many)
	var won [threads][many]bool
	together(threads, func(thread int) {
		for at := range many {
			won[thread][at] = c.Swap(at, 0, uint64(thread+1))
		}
	})
	for at := range many {
		winners := 0
		for thread := range threads {
			if won[thread][at] {
				winners++
				check(t, "Peek", c.Peek(at), uint64(thread+1), at)
			}
		}
		check(t, "how many Swaps", winners, 1, at)
	}
	check(t, "Steps", c.Steps(), threads*many)
}

// P6.4: of Swaps of a word by itself all are done, whoever tries.
func TestSwapsByTheSame(t *testing.T) {
	const threads, many = 8, 500
	c := cells.New(1)
	c.Store(0, 6)
	var done atomic.Int64
	together(threads, func(int) {
		for range many {
			if c.Swap(0, 6, 6) {
				done.Add(1)
			}
		}
	})
	check(t, "how many Swaps", done.Load(), threads*many)
	checkWords(t, c, 1+threads*many, 6)
}

// P6.2, P6.4: no Swap of any thread is lost, and no step either.
func TestNothingIsLost(t *testing.T) {
	const threads, many = 8, 500
	c := cells.New(3)
	var tried atomic.Int64
	together(threads, func(int) {
		for n := 0; n < many; {
			w := c.Load(1)
			tried.Add(2)
			if c.Swap(1, w, w+1) {
				n++
			}
		}
	})
	checkWords(t, c, int(tried.Load()), 0, threads*many, 0)
}

// P6.2: threads that step at their own cells are not in each other's way, and all their steps are counted.
func TestThreadsApart(t *testing.T) {
	const threads, many = 8, 2000
	c := cells.New(threads)
	together(threads, func(thread int) {
		for n := range uint64(many) {
			c.Store(thread, n)
			if c.Load(thread) != n || !c.Swap(thread, n, n+1) || c.Peek(thread) != n+1 || c.Load(-1) != 0 || c.Swap(threads, 0, 1) {
				t.Errorf("thread %d, at %d", thread, n)
			}
		}
	})
	want := make([]uint64, threads)
	for thread := range want {
		want[thread] = many
	}
	checkWords(t, c, 3*threads*many, want...)
}

// P6.2: whoever sees what a step did finds that step counted.
func TestStepsThatAreSeen(t *testing.T) {
	const many = 300000
	c := cells.New(1)
	together(2, func(thread int) {
		for n := range uint64(many) {
			if thread == 0 {
				c.Store(0, n+1)
			} else if seen := c.Peek(0); uint64(c.Steps()) < seen {
				t.Errorf("%d steps were seen, and not counted", seen)
			}
		}
	})
	checkWords(t, c, many, many)
}

// R4: Cells have nothing in common with other ones, made earlier or later.
func TestCellsApart(t *testing.T) {
	a, b := cells.New(2), cells.New(2)
	a.Store(0, 5)
	checkWords(t, b, 0, 0, 0)
	check(t, "Swap", b.Swap(1, 0, 6), true)
	check(t, "Swap", b.Swap(0, 5, 6), false)
	checkWords(t, a, 1, 5, 0)
	checkWords(t, cells.New(2), 0, 0, 0)
	cells.New(-1).Store(0, 9)
	checkWords(t, a, 1, 5, 0)
	checkWords(t, b, 2, 0, 6)
}
