package word_test

import (
	"math"
	"testing"

	"corrie/word"
)

// The constants have the values that the chapter gives them, and go as a word and as an int alike.
func TestConstants(t *testing.T) {
	for name, c := range map[string]struct {
		w    uint64
		n    int
		want uint64
	}{
		"Pending": {word.Pending, word.Pending, 0},
		"In":      {word.In, word.In, 1},
		"Failed":  {word.Failed, word.Failed, 2},
		"Open":    {word.Open, word.Open, 0},
		"Absent":  {word.Absent, word.Absent, 1},
	} {
		if c.w != c.want || uint64(c.n) != c.want {
			t.Errorf("%s is %d, not %d", name, c.w, c.want)
		}
	}
}

// P2.1: words that name operations that there may be.
func TestWordsOfOperationsThatMayBe(t *testing.T) {
	for _, c := range []struct {
		op          int
		out, target uint64
	}{
		{0, 3, 2},
		{1, 4, 3},
		{2, 5, 4},
		{3, 6, 5},
		{4, 7, 6},
		{1000, 1003, 1002},
		{65535, 65538, 65537},
		{1 << 30, 1073741827, 1073741826},
		{1<<31 - 4, 2147483647, 2147483646},
		{1<<31 - 3, 2147483648, 2147483647},
		{1<<31 - 2, 2147483649, 2147483648},
		{1<<31 - 1, 2147483650, 2147483649},
	} {
		if got := word.Out(c.op); got != c.out {
			t.Errorf("Out(%d) = %d, not %d", c.op, got, c.out)
		}
		if got := word.Target(c.op); got != c.target {
			t.Errorf("Target(%d) = %d, not %d", c.op, got, c.target)
		}
	}
}

// P2.1: operations that there may not be have the word 0.
func TestWordsOfOperationsThatMayNotBe(t *testing.T) {
	for _, op := range []int{
		-1, -2, -3, -4, -1000, -1 << 31, -1<<31 + 1, -1<<31 - 1, -1<<32 + 3, -1 << 62, math.MinInt, math.MinInt + 1,
		1 << 31, 1<<31 + 1, 1<<31 + 3, 1<<32 - 3, 1<<32 - 2, 1<<32 - 1, 1 << 32, 1<<32 + 4, 1 << 62, math.MaxInt - 3, math.MaxInt - 1, math.MaxInt,
	} {
		if got := word.Out(op); got != 0 {
			t.Errorf("Out(%d) = %d, not 0", op, got)
		}
		if got := word.Target(op); got != 0 {
			t.Errorf("Target(%d) = %d, not 0", op, got)
		}
	}
}

// P2.1: what words say: by whom an insert was taken out, of what a target is, and whether an insert is over.
func TestWords(t *testing.T) {
	for _, c := range []struct {
		w      uint64
		by, of int
		over   bool
	}{
		{0, -1, -1, false},
		{1, -1, -1, false},
		{2, -1, 0, true},
		{3, 0, 1, true},
		{4, 1, 2, true},
		{7, 4, 5, true},
		{1003, 1000, 1001, true},
		{1<<31 - 1, 1<<31 - 4, 1<<31 - 3, true},
		{1 << 31, 1<<31 - 3, 1<<31 - 2, true},
		{1<<31 + 1, 1<<31 - 2, 1<<31 - 1, true},
		{1<<31 + 2, 1<<31 - 1, -1, true},
		{1<<31 + 3, -1, -1, true},
		{1<<31 + 4, -1, -1, true},
		{1<<32 - 1, -1, -1, true},
		{1 << 32, -1, -1, true},
		{1<<32 + 2, -1, -1, true},
		{1<<32 + 7, -1, -1, true},
		{1<<63 - 1, -1, -1, true},
		{1 << 63, -1, -1, true},
		{1<<63 + 3, -1, -1, true},
		{math.MaxUint64 - 1, -1, -1, true},
		{math.MaxUint64, -1, -1, true},
	} {
		if got := word.By(c.w); got != c.by {
			t.Errorf("By(%d) = %d, not %d", c.w, got, c.by)
		}
		if got := word.Of(c.w); got != c.of {
			t.Errorf("Of(%d) = %d, not %d", c.w, got, c.of)
		}
		if got := word.Over(c.w); got != c.over {
			t.Errorf("Over(%d) = %t, not %t", c.w, got, c.over)
		}
	}
}

// someOperations are operations that there may be: the least ones, the greatest ones, and those about each power of two.
func someOperations() []int {
	var ops []int
	for n := range 1000 {
		ops = append(ops, n, 1<<31-1-n)
	}
	for power := 10; power < 31; power++ {
		ops = append(ops, 1<<power-1, 1<<power, 1<<power+1)
	}
	return ops
}

// P2.2: an operation is told back by both of its words.
func TestOperationsThereAndBack(t *testing.T) {
	for _, op := range someOperations() {
		if got := word.By(word.Out(op)); got != op {
			t.Errorf("By(Out(%d)) = %d", op, got)
		}
		if got := word.Of(word.Target(op)); got != op {
			t.Errorf("Of(Target(%d)) = %d", op, got)
		}
	}
}

// P2.2: a word that names an operation is told back by it.
func TestWordsThereAndBack(t *testing.T) {
	for _, op := range someOperations() {
		for w := uint64(op); w <= uint64(op)+4; w++ {
			if by := word.By(w); by != -1 && word.Out(by) != w {
				t.Errorf("Out(By(%d)) = %d", w, word.Out(by))
			}
			if of := word.Of(w); of != -1 && word.Target(of) != w {
				t.Errorf("Target(Of(%d)) = %d", w, word.Target(of))
			}
		}
	}
}

// P2.2: an insert is over when it failed, or whoever took it out, but not ahead of that.
func TestInsertsThatAreOver(t *testing.T) {
	if word.Over(word.Pending) || word.Over(word.In) {
		t.Error("an insert is over while it is Pending, or In")
	}
	if !word.Over(word.Failed) {
		t.Error("an insert that is Failed isn't over")
	}
	for _, op := range someOperations() {
		if !word.Over(word.Out(op)) {
			t.Errorf("an insert that %d took out isn't over", op)
		}
	}
}

// P2.2: a word that names an operation is none of those that name none.
func TestWordsThatNameNone(t *testing.T) {
	for _, w := range []uint64{word.Pending, word.In, word.Failed} {
		if by := word.By(w); by != -1 {
			t.Errorf("By(%d) = %d, though none took that out", w, by)
		}
	}
	for _, w := range []uint64{word.Open, word.Absent} {
		if of := word.Of(w); of != -1 {
			t.Errorf("Of(%d) = %d, though that found none", w, of)
		}
	}
}
