package ref_test

import (
	"math"
	"testing"

	"corrie/ref"
)

// P1.1: nodes that there may be, and what their references are.
func TestPackOfNodesThatMayBe(t *testing.T) {
	for _, c := range []struct {
		node int
		mark bool
		want uint64
	}{
		{0, false, 0},
		{0, true, 1},
		{1, false, 2},
		{1, true, 3},
		{2, false, 4},
		{3, false, 6},
		{3, true, 7},
		{1000, false, 2000},
		{1000, true, 2001},
		{65535, true, 131071},
		{65536, false, 131072},
		{1 << 30, false, 2147483648},
		{1 << 30, true, 2147483649},
		{1<<31 - 2, false, 4294967292},
		{1<<31 - 2, true, 4294967293},
		{1<<31 - 1, false, 4294967294},
		{1<<31 - 1, true, 4294967295},
	} {
		if got := ref.Pack(c.node, c.mark); got != c.want {
			t.Errorf("Pack(%d, %t) = %d, not %d", c.node, c.mark, got, c.want)
		}
	}
}

// P1.1: nodes that there may not be have the reference 0, even where a mark is asked for.
func TestPackOfNodesThatMayNotBe(t *testing.T) {
	for _, node := range []int{
		-1, -2, -3, -1000, -1 << 31, -1<<31 + 1, -1<<31 - 1, -1<<32 + 3, -1 << 62, math.MinInt, math.MinInt + 1,
		1 << 31, 1<<31 + 1, 1<<31 + 3, 1<<32 - 1, 1 << 32, 1<<32 + 3, 1 << 62, 1<<62 + 3, math.MaxInt - 1, math.MaxInt,
	} {
		for _, mark := range []bool{false, true} {
			if got := ref.Pack(node, mark); got != 0 {
				t.Errorf("Pack(%d, %t) = %d, not 0", node, mark, got)
			}
		}
	}
}

// P1.1: what words say: their nodes, whether they are marked, and what they are, marked.
func TestWords(t *testing.T) {
	for _, c := range []struct {
		w      uint64
		index  int
		marked bool
		mark   uint64
	}{
		{0, 0, false, 1},
		{1, 0, true, 1},
		{2, 1, false, 3},
		{3, 1, true, 3},
		{6, 3, false, 7},
		{7, 3, true, 7},
		{2000, 1000, false, 2001},
		{2001, 1000, true, 2001},
		{1<<32 - 2, 1<<31 - 1, false, 1<<32 - 1},
		{1<<32 - 1, 1<<31 - 1, true, 1<<32 - 1},
		{1 << 32, 1 << 31, false, 1<<32 + 1},
		{1<<32 + 1, 1 << 31, true, 1<<32 + 1},
		{1<<63 - 2, 1<<62 - 1, false, 1<<63 - 1},
		{1<<63 - 1, 1<<62 - 1, true, 1<<63 - 1},
		{1 << 63, 1 << 62, false, 1<<63 + 1},
		{1<<63 + 1, 1 << 62, true, 1<<63 + 1},
		{math.MaxUint64 - 1, math.MaxInt, false, math.MaxUint64},
		{math.MaxUint64, math.MaxInt, true, math.MaxUint64},
	} {
		if got := ref.Index(c.w); got != c.index {
			t.Errorf("Index(%d) = %d, not %d", c.w, got, c.index)
		}
		if got := ref.Marked(c.w); got != c.marked {
			t.Errorf("Marked(%d) = %t, not %t", c.w, got, c.marked)
		}
		if got := ref.Mark(c.w); got != c.mark {
			t.Errorf("Mark(%d) = %d, not %d", c.w, got, c.mark)
		}
	}
}

// someNodes are nodes that there may be: the least ones, the greatest ones, and those about each power of two.
func someNodes() []int {
	var nodes []int
	for n := range 1000 {
		nodes = append(nodes, n, 1<<31-1-n)
	}
	for power := 10; power < 31; power++ {
		nodes = append(nodes, 1<<power-1, 1<<power, 1<<power+1)
	}
	return nodes
}

// someWords are the least words, the greatest ones, and those about each power of two.
func someWords() []uint64 {
	var words []uint64
	for w := range uint64(1000) {
		words = append(words, w, math.MaxUint64-w)
	}
	for power := 10; power < 64; power++ {
		words = append(words, 1<<power-1, 1<<power, 1<<power+1)
	}
	return words
}

// P1.2: a node, and its mark, are told back by its reference.
func TestNodesThereAndBack(t *testing.T) {
	for _, node := range someNodes() {
		for _, mark := range []bool{false, true} {
			w := ref.Pack(node, mark)
			if ref.Index(w) != node || ref.Marked(w) != mark {
				t.Errorf("Pack(%d, %t) = %d tells back %d and %t", node, mark, w, ref.Index(w), ref.Marked(w))
			}
		}
	}
}

// P1.2: a reference is told back by its node and its mark.
func TestReferencesThereAndBack(t *testing.T) {
	for _, w := range someWords() {
		if w >= 1<<32 {
			continue
		}
		if got := ref.Pack(ref.Index(w), ref.Marked(w)); got != w {
			t.Errorf("Pack(Index, Marked) of %d = %d", w, got)
		}
	}
}

// P1.2: a reference that is marked is still of its node, and is the node's one that Pack tells.
func TestMarkedReferenceIsOfItsNode(t *testing.T) {
	for _, node := range someNodes() {
		for _, mark := range []bool{false, true} {
			w := ref.Mark(ref.Pack(node, mark))
			if ref.Index(w) != node || !ref.Marked(w) || w != ref.Pack(node, true) {
				t.Errorf("Mark(Pack(%d, %t)) = %d", node, mark, w)
			}
		}
	}
}

// P1.2: whatever the word, a mark leaves its node, and a second one changes nothing.
func TestMarkedOnce(t *testing.T) {
	for _, w := range someWords() {
		once := ref.Mark(w)
		if !ref.Marked(once) || ref.Index(once) != ref.Index(w) {
			t.Errorf("Mark(%d) = %d", w, once)
		}
		if twice := ref.Mark(once); twice != once {
			t.Errorf("Mark(%d) = %d, though it is marked", once, twice)
		}
	}
}
