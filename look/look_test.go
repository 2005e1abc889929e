package look_test

import (
	"math"
	"slices"
	"sync"
	"testing"

	"corrie/api"
	"corrie/book"
	"corrie/cells"
	"corrie/look"
	"corrie/world"
)

// one is a layout of one thread and one bucket: node 0, the head 1, the nodes 2 to 9, and 4 operations; these have the cells 10 to 13.
var one = api.Conf{Threads: 1, Buckets: 1, Inserts: 4, Fuel: 5, Calls: 4}

// four is a layout of four buckets, with the heads 1 to 4: of the keys 0 to 10 bucket 0 has 0, 2, 5 and 10, bucket 1 has 4 and 7, bucket 2 has 1, 6 and 9, and bucket 3 has 3 and 8.
var four = api.Conf{Threads: 2, Buckets: 4, Inserts: 16, Fuel: 5, Calls: 16}

// greatest is the greatest layout that may be.
var greatest = api.Conf{Threads: 8, Buckets: 64, Inserts: 256, Fuel: 65536, Calls: 256}

// Words of inserts.
const (
	pending = 0
	in      = 1
	failed  = 2
	out     = 3
)

// fresh is a new world of a layout that may be.
func fresh(t *testing.T, c api.Conf) *world.World {
	t.Helper()
	w, e := world.New(c)
	if e != api.OK {
		t.Fatalf("New of %+v is an error, %d", c, e)
	}
	return w
}

// begin writes down a thread's call, whose operation has that word, and tells the operation.
func begin(t *testing.T, w *world.World, thread int, call api.Call, word uint64) int {
	t.Helper()
	op, e := w.Book.Begin(thread, call)
	if e != api.OK {
		t.Fatalf("Begin of %d and %+v is an error, %d", thread, call, e)
	}
	w.Turn(op, 0, word)
	return op
}

// insert is an insert of a key, with ten times the key, and one for each insert that thread 0 called earlier, as its value: no two are the same.
func insert(t *testing.T, w *world.World, key, word uint64) int {
	t.Helper()
	call := api.Call{Kind: api.Insert, Key: key, Val: 10*key + uint64(w.Book.Calls(0))}
	return begin(t, w, 0, call, word)
}

// carry makes a node of thread 0 that carries an operation.
func carry(t *testing.T, w *world.World, op int) int {
	t.Helper()
	node, e := w.Book.Make(0, op)
	if e != api.OK {
		t.Fatalf("Make of %d is an error, %d", op, e)
	}
	return node
}

// mark says of a node that it is to be marked.
func mark(node int) int { return -node }

// chain lays nodes one behind the other, in a bucket. One below 0 is marked.
func chain(w *world.World, bucket int, nodes ...int) {
	at, marked := 1+bucket, uint64(0)
	for _, node := range append(slices.Clone(nodes), 0) {
		behind := uint64(0)
		if node < 0 {
			node, behind = -node, 1
		}
		w.Set(at, 2*uint64(node)+marked)
		at, marked = node, behind
	}
}

// lay is a world of the layout four, where a bucket has a node of each insert, of these keys and words.
func lay(t *testing.T, bucket int, inserts ...[2]uint64) *world.World {
	t.Helper()
	w := fresh(t, four)
	var nodes []int
	for _, i := range inserts {
		nodes = append(nodes, carry(t, w, insert(t, w, i[0], i[1])))
	}
	chain(w, bucket, nodes...)
	return w
}

func checkChain(t *testing.T, w *world.World, bucket int, want ...int) {
	t.Helper()
	if got := look.Chain(w, bucket); !slices.Equal(got, want) {
		t.Errorf("Chain of bucket %d is %v, not %v", bucket, got, want)
	}
}

func checkPairs(t *testing.T, w *world.World, want ...api.Pair) {
	t.Helper()
	if got := look.Pairs(w); !slices.Equal(got, want) {
		t.Errorf("Pairs is %v, not %v", got, want)
	}
}

func checkSound(t *testing.T, w *world.World, want bool, of ...any) {
	t.Helper()
	if got := look.Sound(w); got != want {
		t.Errorf("Sound is %v, not %v: %+v", got, want, of)
	}
}

// P9.1 to P9.3: a new world is sound, and has nothing.
func TestNewWorlds(t *testing.T) {
	for _, c := range []api.Conf{one, four, greatest, {Threads: 1, Buckets: 1, Calls: 1}} {
		w := fresh(t, c)
		for bucket := range c.Buckets {
			checkChain(t, w, bucket)
		}
		checkPairs(t, w)
		checkSound(t, w, true, c)
	}
}

// P9.1: nodes are told in the turn in which one comes to them, whatever their numbers, of each bucket its own.
func TestChains(t *testing.T) {
	w := fresh(t, four)
	op := insert(t, w, 7, in)
	for range 6 {
		carry(t, w, op)
	}
	chain(w, 0, 7)
	chain(w, 2, 10, 5, 9)
	chain(w, 3, 8, 6)
	for range 2 {
		checkChain(t, w, 0, 7)
		checkChain(t, w, 1)
		checkChain(t, w, 2, 10, 5, 9)
		checkChain(t, w, 3, 8, 6)
	}
	chain(w, 2, 9, 10)
	checkChain(t, w, 2, 9, 10)
	chain(w, 2)
	checkChain(t, w, 2)
}

// P9.1: of a bucket that there isn't there are no nodes, whatever the cell 0 has.
func TestChainsOfBucketsThatThereAreNot(t *testing.T) {
	w := lay(t, 0, [2]uint64{2, in})
	w.Set(0, 10)
	w.Set(5, 12)
	for _, bucket := range []int{-1, -2, -5, 4, 5, 6, 63, 64, 1 << 32, -1 << 32, math.MinInt, math.MinInt + 1, math.MaxInt - 1, math.MaxInt} {
		checkChain(t, w, bucket)
	}
	checkChain(t, w, 0, 5, 6)
}

// P9.1: marks, of nodes and of heads, don't keep from going on.
func TestChainsWithMarks(t *testing.T) {
	w := lay(t, 0, [2]uint64{2, failed}, [2]uint64{2, failed}, [2]uint64{2, failed})
	chain(w, 0, mark(5), mark(6), mark(7))
	checkChain(t, w, 0, 5, 6, 7)
	w.Set(1, 2*6+1)
	checkChain(t, w, 0, 6, 7)
	w.Set(1, 1)
	checkChain(t, w, 0)
}

// P9.1: a node is told, though it wasn't made, or there is no such one; of that one there is no reference.
func TestChainsOfNodesThatThereAreNot(t *testing.T) {
	w := fresh(t, four)
	for _, node := range []uint64{68, 69, 70, 133, 134, 1<<31 - 1, 1 << 31, 1 << 32, 1<<32 + 6, 1<<63 - 1} {
		w.Set(3, 2*node)
		checkChain(t, w, 2, int(node))
		w.Set(3, 2*node+1)
		checkChain(t, w, 2, int(node))
		checkPairs(t, w)
		checkSound(t, w, false, node)
	}
	chain(w, 2, 60, 30)
	checkChain(t, w, 2, 60, 30)
	checkSound(t, w, false)
}

// P9.1: where references go round, as many nodes are told as there are.
func TestChainsThatGoRound(t *testing.T) {
	for _, c := range []struct {
		conf api.Conf
		many int
	}{{one, 10}, {four, 69}, {greatest, 4161}} {
		w := fresh(t, c.conf)
		first := 1 + c.conf.Buckets
		op := insert(t, w, 0, failed)
		for range 3 {
			carry(t, w, op)
		}
		chain(w, 0, first, first+1, first+2)
		w.Set(first+2, uint64(2*first+2))
		checkSound(t, w, false, c)
		round := look.Chain(w, 0)
		if len(round) != c.many {
			t.Errorf("%d nodes, not %d, of %+v", len(round), c.many, c.conf)
		}
		for n, node := range round {
			if want := first + (n+1)%2 + 1; node != want && n > 0 {
				t.Errorf("node %d is %d, not %d, of %+v", n, node, want, c.conf)
			}
		}
		checkPairs(t, w)
	}
}

// P9.1, P9.3: a head that is behind itself goes round, and heads carry no operation.
func TestHeadsAmongNodes(t *testing.T) {
	w := lay(t, 0, [2]uint64{2, in})
	checkSound(t, w, true)
	w.Set(2, 2*2)
	if round := look.Chain(w, 1); len(round) != 69 || slices.Max(round) != 2 || slices.Min(round) != 2 {
		t.Errorf("%v", round)
	}
	checkSound(t, w, false)
	w.Set(2, 2*4)
	checkChain(t, w, 1, 4)
	checkSound(t, w, false)
	checkPairs(t, w, api.Pair{Key: 2, Val: 20})
}

// P9.1: the longest chain without a way round has all nodes of threads.
func TestLongestChain(t *testing.T) {
	w := fresh(t, one)
	var nodes []int
	for key := range uint64(4) {
		op := insert(t, w, key, in)
		nodes = append(nodes, carry(t, w, op), mark(carry(t, w, op)))
	}
	chain(w, 0, nodes...)
	checkChain(t, w, 0, 2, 3, 4, 5, 6, 7, 8, 9)
	checkPairs(t, w, api.Pair{Key: 0, Val: 0}, api.Pair{Key: 1, Val: 11}, api.Pair{Key: 2, Val: 22}, api.Pair{Key: 3, Val: 33})
	checkSound(t, w, true)
}

// P9.2: just inserts that are In are told, with their keys and values.
func TestPairsByWords(t *testing.T) {
	for _, c := range []struct {
		word uint64
		want int
	}{{pending, 0}, {in, 1}, {failed, 0}, {out, 0}, {7, 0}, {1<<32 + 1, 0}, {1<<63 + 1, 0}, {math.MaxUint64, 0}} {
		w := lay(t, 0, [2]uint64{2, c.word})
		if got := look.Pairs(w); len(got) != c.want {
			t.Errorf("Pairs of the word %d is %v", c.word, got)
		}
		checkSound(t, w, true, c)
	}
	checkPairs(t, lay(t, 0, [2]uint64{2, out}, [2]uint64{2, in}, [2]uint64{5, pending}, [2]uint64{10, in}), api.Pair{Key: 2, Val: 21}, api.Pair{Key: 10, Val: 103})
}

// P9.2: of a delete, a get or a scan the word 1 says no such thing; and it may not be in a bucket.
func TestOperationsThatAreNoInserts(t *testing.T) {
	for _, kind := range []int{api.Delete, api.Get, api.Scan} {
		for _, word := range []uint64{0, 1, 2, 3} {
			w := fresh(t, four)
			chain(w, 0, carry(t, w, begin(t, w, 0, api.Call{Kind: kind, Key: 2, Val: 9}, word)))
			checkChain(t, w, 0, 5)
			checkPairs(t, w)
			checkSound(t, w, false, kind, word)
		}
	}
}

// P9.2: keys and values are told whole, the least ones and the greatest ones, those with lesser keys first, whatever buckets they are in.
func TestPairsInTheirTurn(t *testing.T) {
	w := fresh(t, api.Conf{Threads: 1, Buckets: 64, Inserts: 256, Calls: 256})
	last := map[int]int{}
	var want []api.Pair
	for key := range uint64(100) {
		for _, p := range []api.Pair{{Key: key, Val: math.MaxUint64 - key}, {Key: math.MaxUint64 - key, Val: key}} {
			head := w.Head(p.Key)
			if last[head] == 0 {
				last[head] = head
			}
			node := carry(t, w, begin(t, w, 0, api.Call{Kind: api.Insert, Key: p.Key, Val: p.Val}, in))
			w.Set(last[head], uint64(2*node))
			last[head] = node
			want = append(want, p)
		}
	}
	slices.SortFunc(want, func(a, b api.Pair) int {
		if a.Key < b.Key {
			return -1
		}
		return 1
	})
	checkPairs(t, w, want...)
}

// P9.2: an operation is told once, though many nodes carry it, in one bucket or in several ones.
func TestEachOperationOnce(t *testing.T) {
	w := fresh(t, four)
	a, b := insert(t, w, 2, in), insert(t, w, 5, in)
	chain(w, 0, carry(t, w, a), mark(carry(t, w, a)), carry(t, w, b), mark(carry(t, w, b)), mark(carry(t, w, b)))
	checkPairs(t, w, api.Pair{Key: 2, Val: 20}, api.Pair{Key: 5, Val: 51})
	checkSound(t, w, true)
	chain(w, 3, carry(t, w, b), carry(t, w, a))
	checkPairs(t, w, api.Pair{Key: 2, Val: 20}, api.Pair{Key: 5, Val: 51})
	checkSound(t, w, false)
}

// P9.2: two operations of the same key and value are two, in the turn in which one comes to them: bucket by bucket, and there node by node.
func TestPairsOfOneKey(t *testing.T) {
	w := fresh(t, four)
	var ops [6]int
	for n, val := range []uint64{5, 3, 9, 3, 1, 7} {
		ops[n] = begin(t, w, 0, api.Call{Kind: api.Insert, Key: 2, Val: val}, in)
	}
	chain(w, 3, carry(t, w, ops[0]))
	chain(w, 1, carry(t, w, ops[4]), carry(t, w, ops[1]))
	chain(w, 0, carry(t, w, ops[3]), carry(t, w, ops[2]), carry(t, w, ops[5]), carry(t, w, ops[3]))
	want := []api.Pair{{Key: 2, Val: 3}, {Key: 2, Val: 9}, {Key: 2, Val: 7}, {Key: 2, Val: 1}, {Key: 2, Val: 3}, {Key: 2, Val: 5}}
	for range 20 {
		checkPairs(t, w, want...)
	}
	checkSound(t, w, false)
	before := begin(t, w, 0, api.Call{Kind: api.Insert, Key: 1, Val: 8}, in)
	chain(w, 2, carry(t, w, before))
	checkPairs(t, w, append([]api.Pair{{Key: 1, Val: 8}}, want...)...)
}

// P9.2: many of one key stay in that turn, where few would by chance.
func TestManyPairsOfOneKey(t *testing.T) {
	w := fresh(t, api.Conf{Threads: 1, Buckets: 1, Inserts: 256, Calls: 256})
	var nodes []int
	var want [3][]api.Pair
	for n := range uint64(256) {
		p := api.Pair{Key: n * 7 % 3, Val: n * 37 % 256}
		nodes = append(nodes, carry(t, w, begin(t, w, 0, api.Call{Kind: api.Insert, Key: p.Key, Val: p.Val}, in)))
		want[p.Key] = append(want[p.Key], p)
	}
	chain(w, 0, nodes...)
	checkPairs(t, w, slices.Concat(want[0], want[1], want[2])...)
}

// P9.2: what is in no bucket is not told, and what goes round is told once.
func TestPairsOfWhatOneComesTo(t *testing.T) {
	w := fresh(t, four)
	a, b := carry(t, w, insert(t, w, 2, in)), carry(t, w, insert(t, w, 5, in))
	checkPairs(t, w)
	checkSound(t, w, true)
	chain(w, 0, b)
	w.Set(a, uint64(2*b))
	checkPairs(t, w, api.Pair{Key: 5, Val: 51})
	checkSound(t, w, true)
	w.Set(b, uint64(2*a))
	checkPairs(t, w, api.Pair{Key: 2, Val: 20}, api.Pair{Key: 5, Val: 51})
	checkSound(t, w, false)
}

// P9.3: keys may stay, and rise, but not fall, whether or not their operations are over.
func TestSoundKeys(t *testing.T) {
	for _, c := range []struct {
		keys []uint64
		want bool
	}{
		{[]uint64{0, 2, 5, 10}, true},
		{[]uint64{2, 2, 5, 5}, true},
		{[]uint64{0, 0, 0}, true},
		{[]uint64{2, 0}, false},
		{[]uint64{2, 5, 2}, false},
		{[]uint64{5, 10, 0}, false},
		{[]uint64{0, 10, 5, 10}, false},
	} {
		for _, word := range []uint64{pending, failed, 9} {
			var inserts [][2]uint64
			for _, key := range c.keys {
				inserts = append(inserts, [2]uint64{key, word})
			}
			checkSound(t, lay(t, 0, inserts...), c.want, c, word)
		}
	}
}

// P9.3: keys are as great as words are.
func TestSoundGreatKeys(t *testing.T) {
	for _, c := range []struct {
		low, high uint64
	}{{0, math.MaxUint64}, {1, 1 << 63}, {1<<63 - 1, 1 << 63}, {math.MaxUint64 - 1, math.MaxUint64}, {1<<32 - 1, 1 << 32}, {5, 1<<32 + 2}} {
		w := fresh(t, one)
		low, high := carry(t, w, insert(t, w, c.low, in)), carry(t, w, insert(t, w, c.high, in))
		chain(w, 0, low, high)
		checkSound(t, w, true, c)
		chain(w, 0, high, low)
		checkSound(t, w, false, c)
	}
}

// P9.3: a key is in its bucket alone, whatever buckets there are.
func TestSoundBuckets(t *testing.T) {
	for power := range 7 {
		w := fresh(t, api.Conf{Threads: 1, Buckets: 1 << power, Inserts: 16, Calls: 16})
		for _, key := range []uint64{0, 1, 2, 3, 64, 1000, 1 << 63, math.MaxUint64} {
			for _, word := range []uint64{in, out} {
				node := carry(t, w, insert(t, w, key, word))
				for bucket := range w.C.Buckets {
					chain(w, bucket, node)
					checkSound(t, w, 1+bucket == w.Head(key), key, bucket, w.C)
					chain(w, bucket)
				}
			}
		}
	}
}

// P9.3: one bucket that isn't sound is enough, the last one, too.
func TestSoundOfAllBuckets(t *testing.T) {
	for bucket, key := range []uint64{0, 4, 1, 3} {
		w := fresh(t, four)
		a, b := carry(t, w, insert(t, w, key, in)), carry(t, w, insert(t, w, key, in))
		chain(w, bucket, a)
		checkSound(t, w, true, bucket)
		chain(w, bucket, b)
		checkSound(t, w, true, bucket)
		chain(w, bucket, a, b)
		checkSound(t, w, false, bucket)
	}
}

// P9.3: what is asked of nodes is asked within a bucket: what one has is not ahead of what another one has.
func TestBucketsApart(t *testing.T) {
	w := fresh(t, four)
	a, b, c := insert(t, w, 10, pending), insert(t, w, 1, in), insert(t, w, 3, in)
	chain(w, 0, carry(t, w, a))
	chain(w, 2, carry(t, w, b), mark(carry(t, w, b)))
	chain(w, 3, carry(t, w, c))
	checkSound(t, w, true)
	checkPairs(t, w, api.Pair{Key: 1, Val: 11}, api.Pair{Key: 3, Val: 32})
	twice := carry(t, w, a)
	chain(w, 1, twice)
	checkSound(t, w, false)
}

// P9.3: a node that wasn't made carries no operation, though its bucket be that of the key 0.
func TestNodesThatWereNotMade(t *testing.T) {
	w := fresh(t, four)
	chain(w, 0, 5)
	checkSound(t, w, false)
	if node := carry(t, w, insert(t, w, 0, pending)); node != 5 {
		t.Fatal(node)
	}
	checkSound(t, w, true)
	chain(w, 0, 5, 6)
	checkSound(t, w, false)
}

// P9.3: a node that comes twice is one too many, though all else is as it is to be.
func TestNodesThatComeTwice(t *testing.T) {
	for _, word := range []uint64{pending, in, failed, out} {
		w := lay(t, 0, [2]uint64{2, word})
		checkSound(t, w, true, word)
		w.Set(5, 2*5)
		checkSound(t, w, false, word)
		w.Set(5, 2*5+1)
		checkSound(t, w, false, word)
	}
	w := lay(t, 0, [2]uint64{2, failed}, [2]uint64{2, pending}, [2]uint64{2, pending})
	checkSound(t, w, true)
	w.Set(7, 2*6)
	checkSound(t, w, false)
	w.Set(7, 2*7)
	checkSound(t, w, false)
}

// P9.3: a node may be marked, if its operation is over, or a node ahead of it carries it, too.
func TestMarks(t *testing.T) {
	for _, c := range []struct {
		word           uint64
		first, seconds bool
	}{{pending, false, true}, {in, false, true}, {failed, true, true}, {out, true, true}, {9, true, true}, {math.MaxUint64, true, true}} {
		w := fresh(t, four)
		op := insert(t, w, 2, c.word)
		a, b, d := carry(t, w, op), carry(t, w, op), carry(t, w, op)
		chain(w, 0, mark(a))
		checkSound(t, w, c.first, c)
		chain(w, 0, mark(a), b)
		checkSound(t, w, c.first, c)
		chain(w, 0, mark(a), mark(b))
		checkSound(t, w, c.first, c)
		chain(w, 0, a, mark(b))
		checkSound(t, w, c.seconds, c)
		chain(w, 0, d, mark(b), mark(a))
		checkSound(t, w, c.seconds, c)
		chain(w, 0, b, d, mark(a))
		checkSound(t, w, c.seconds, c)
	}
}

// P9.3: that another operation, even of the same key, is ahead, is no leave to be marked; nor is the mark of the head, or of a node that is over, anyone else's.
func TestMarksOfOthers(t *testing.T) {
	w := fresh(t, four)
	a, b := carry(t, w, insert(t, w, 2, failed)), carry(t, w, insert(t, w, 2, in))
	chain(w, 0, mark(a), b)
	checkSound(t, w, true)
	chain(w, 0, a, mark(b))
	checkSound(t, w, false)
	chain(w, 0, mark(a), mark(b))
	checkSound(t, w, false)
	chain(w, 0, b)
	w.Set(1, uint64(2*b+1))
	checkSound(t, w, true)
}

// P9.3: ahead of one that is In all of its key are over, wherever else others are.
func TestAheadOfOneThatIsIn(t *testing.T) {
	for _, c := range []struct {
		inserts [][2]uint64
		want    bool
	}{
		{[][2]uint64{{2, in}}, true},
		{[][2]uint64{{2, in}, {2, pending}}, true},
		{[][2]uint64{{2, in}, {2, pending}, {2, failed}, {2, out}, {2, pending}}, true},
		{[][2]uint64{{2, failed}, {2, out}, {2, 99}, {2, in}}, true},
		{[][2]uint64{{2, pending}, {2, pending}}, true},
		{[][2]uint64{{2, pending}, {2, in}}, false},
		{[][2]uint64{{2, in}, {2, in}}, false},
		{[][2]uint64{{2, in}, {2, failed}, {2, in}}, false},
		{[][2]uint64{{2, pending}, {2, failed}, {2, in}}, false},
		{[][2]uint64{{2, failed}, {2, pending}, {2, in}}, false},
		{[][2]uint64{{0, pending}, {2, in}}, true},
		{[][2]uint64{{0, in}, {2, in}, {5, in}, {10, in}}, true},
		{[][2]uint64{{0, pending}, {2, in}, {2, pending}, {5, in}, {5, pending}, {10, pending}}, true},
		{[][2]uint64{{0, in}, {2, in}, {5, pending}, {10, in}, {10, in}}, false},
		{[][2]uint64{{0, in}, {2, pending}, {5, in}, {5, out}, {5, in}}, false},
		{[][2]uint64{{0, in}, {0, failed}, {0, pending}, {0, in}}, false},
	} {
		checkSound(t, lay(t, 0, c.inserts...), c.want, c)
	}
}

// P9.3: of one that is In the first node is asked alone: behind that there may be others of its key, and it once more.
func TestAheadOfFirstNodes(t *testing.T) {
	w := fresh(t, four)
	a, b := insert(t, w, 2, in), insert(t, w, 2, pending)
	a1, a2, b1, b2 := carry(t, w, a), carry(t, w, a), carry(t, w, b), carry(t, w, b)
	chain(w, 0, a1, b1, a2)
	checkSound(t, w, true)
	chain(w, 0, a1, b1, mark(a2), mark(b2))
	checkSound(t, w, true)
	chain(w, 0, b1, a1)
	checkSound(t, w, false)
	chain(w, 0, b1, a1, b2, a2)
	checkSound(t, w, false)
	w.Turn(b, pending, failed)
	checkSound(t, w, true)
	w.Turn(a, in, pending)
	w.Turn(b, failed, in)
	chain(w, 0, b1, a1, mark(b2), mark(a2))
	checkSound(t, w, true)
}

// P9.1 to P9.3: of a World that is nil there is nothing, and it is not sound.
func TestNil(t *testing.T) {
	for _, bucket := range []int{0, 1, 63, -1, math.MinInt, math.MaxInt} {
		checkChain(t, nil, bucket)
	}
	checkPairs(t, nil)
	checkSound(t, nil, false)
}

// P1: no call panics, or goes on for ever, of a World that was put together of what there isn't. What has no bucket, or no cell, has nothing.
func TestWorldsWithoutMuch(t *testing.T) {
	full := lay(t, 0, [2]uint64{2, in})
	var none *book.Book
	for _, w := range []*world.World{
		{},
		{C: four},
		{C: four, Book: full.Book},
		{C: api.Conf{Threads: 1, Buckets: math.MaxInt, Calls: 1}, Cells: full.Cells, Book: full.Book},
		{C: api.Conf{Threads: 1, Buckets: -1, Calls: 1}, Cells: full.Cells, Book: full.Book},
		{C: api.Conf{Buckets: 4}, Cells: full.Cells, Book: full.Book},
		{C: four, Cells: cells.New(-1), Book: full.Book},
		{Cells: full.Cells, Book: full.Book},
	} {
		for _, bucket := range []int{0, 1, -1, math.MinInt, math.MaxInt} {
			checkChain(t, w, bucket)
		}
		checkPairs(t, w)
		checkSound(t, w, true, w.C)
	}
	noBook := &world.World{C: four, Cells: full.Cells, Book: none}
	checkChain(t, noBook, 0, 5)
	checkPairs(t, noBook)
	checkSound(t, noBook, false)
}

// P9.1 to P9.3: no call is a step, or changes any cell, or the book.
func TestNoSteps(t *testing.T) {
	w := lay(t, 0, [2]uint64{2, out}, [2]uint64{2, in}, [2]uint64{5, pending})
	w.Say(1, 3)
	steps, all := w.Cells.Steps(), peekAll(w)
	for range 3 {
		for bucket := -1; bucket <= 4; bucket++ {
			look.Chain(w, bucket)
		}
		look.Pairs(w)
		look.Sound(w)
	}
	if w.Cells.Steps() != steps || !slices.Equal(peekAll(w), all) {
		t.Error("cells changed")
	}
	if w.Book.Calls(0) != 3 || w.Book.Made(0) != 3 || w.Book.Calls(1) != 0 || w.Book.Made(1) != 0 {
		t.Error("the book changed")
	}
}

func peekAll(w *world.World) []uint64 {
	var all []uint64
	for at := range w.Cells.Len() {
		all = append(all, w.Cells.Peek(at))
	}
	return all
}

// R3, R4: what was told stays, whatever comes later, and nobody else is told what somebody wrote into it.
func TestWhatWasTold(t *testing.T) {
	w := lay(t, 0, [2]uint64{2, in}, [2]uint64{5, in})
	chained, pairs := look.Chain(w, 0), look.Pairs(w)
	chain(w, 0, 6)
	checkChain(t, w, 0, 6)
	checkPairs(t, w, api.Pair{Key: 5, Val: 51})
	if !slices.Equal(chained, []int{5, 6}) || !slices.Equal(pairs, []api.Pair{{Key: 2, Val: 20}, {Key: 5, Val: 51}}) {
		t.Errorf("%v, %v", chained, pairs)
	}
	chained[0], pairs[1] = 9, api.Pair{}
	checkChain(t, w, 0, 6)
	checkPairs(t, w, api.Pair{Key: 5, Val: 51})
	other := fresh(t, four)
	checkChain(t, other, 0)
	checkPairs(t, other)
	checkSound(t, other, true)
}

// stop is a node in the plain model, with the operation that it carries.
type stop struct {
	node   int
	marked bool
	op     int
	call   api.Call
	word   uint64
}

// stops are the nodes of a bucket, by the numbers of cells alone: first those of nodes, then those of operations.
func stops(w *world.World, bucket int) []stop {
	ops := w.C.Threads * w.C.Calls
	nodes := 1 + w.C.Buckets + 2*ops
	var all []stop
	at := int(w.Cells.Peek(1+bucket) / 2)
	for at != 0 && len(all) < nodes {
		s := stop{node: at, op: w.Book.Carried(at)}
		s.call, _ = w.Book.Call(s.op)
		if s.op >= 0 {
			s.word = w.Cells.Peek(nodes + s.op)
		}
		next := uint64(0)
		if at < nodes {
			next = w.Cells.Peek(at)
		}
		s.marked = next%2 == 1
		all = append(all, s)
		at = int(next / 2)
	}
	return all
}

// plainSound asks of each node, one by one, all that the chapter asks, by going through all that are ahead of it.
func plainSound(w *world.World) bool {
	for bucket := range w.C.Buckets {
		all := stops(w, bucket)
		for n, s := range all {
			ahead := all[:n]
			if s.call.Kind != api.Insert || w.Head(s.call.Key) != 1+bucket {
				return false
			}
			if n > 0 && ahead[n-1].call.Key > s.call.Key {
				return false
			}
			twice := slices.ContainsFunc(ahead, func(a stop) bool { return a.node == s.node })
			first := !slices.ContainsFunc(ahead, func(a stop) bool { return a.op == s.op })
			open := slices.ContainsFunc(ahead, func(a stop) bool { return a.call.Key == s.call.Key && a.word < failed })
			if twice || s.marked && s.word < failed && first || s.word == in && first && open {
				return false
			}
		}
	}
	return true
}

// plainPairs puts each pair behind all those that don't have greater keys.
func plainPairs(w *world.World) []api.Pair {
	var pairs []api.Pair
	var ops []int
	for bucket := range w.C.Buckets {
		for _, s := range stops(w, bucket) {
			if s.call.Kind != api.Insert || s.word != in || slices.Contains(ops, s.op) {
				continue
			}
			ops = append(ops, s.op)
			at := len(pairs)
			for at > 0 && pairs[at-1].Key > s.call.Key {
				at--
			}
			pairs = slices.Insert(pairs, at, api.Pair{Key: s.call.Key, Val: s.call.Val})
		}
	}
	return pairs
}

// checkPlain holds all that is told of a world against the plain model, and tells whether it is sound. Of one that is, keys rise (P9.4).
func checkPlain(t *testing.T, w *world.World) bool {
	t.Helper()
	for bucket := range w.C.Buckets {
		var want []int
		for _, s := range stops(w, bucket) {
			want = append(want, s.node)
		}
		checkChain(t, w, bucket, want...)
	}
	pairs, sound := plainPairs(w), plainSound(w)
	checkPairs(t, w, pairs...)
	checkSound(t, w, sound)
	for n, p := range pairs {
		if sound && n > 0 && pairs[n-1].Key >= p.Key {
			t.Errorf("a sound world's keys don't rise: %v", pairs)
		}
	}
	return sound
}

// lists calls do with each list of so many numbers below most.
func lists(many, most int, do func(list []int)) {
	list := make([]int, many)
	for {
		do(list)
		at := 0
		for at < many && list[at] == most-1 {
			list[at] = 0
			at++
		}
		if at == many {
			return
		}
		list[at]++
	}
}

// P9.1 to P9.4: all chains of up to four nodes, each marked or not, of three operations, two of which have one key, with all words that differ, are as the plain model says.
func TestAllShortChains(t *testing.T) {
	sounds, all := 0, 0
	lists(3, 4, func(words []int) {
		for many := range 5 {
			lists(many, 6, func(nodes []int) {
				w := fresh(t, one)
				var ops [3]int
				for n, key := range []uint64{2, 2, 5} {
					ops[n] = insert(t, w, key, uint64(words[n]))
				}
				var laid []int
				for _, n := range nodes {
					node := carry(t, w, ops[n/2])
					if n%2 == 1 {
						node = mark(node)
					}
					laid = append(laid, node)
				}
				chain(w, 0, laid...)
				all++
				if checkPlain(t, w) {
					sounds++
				}
				if t.Failed() {
					t.Fatalf("words %v, nodes %v", words, nodes)
				}
			})
		}
	})
	if all != 64*1555 || sounds < all/20 || sounds > all/2 {
		t.Errorf("%d of %d are sound", sounds, all)
	}
}

// some tells numbers below bounds, one after the other, by a rule that doesn't change.
func some() func(bound int) int {
	n := uint64(1)
	return func(bound int) int {
		n = n*6364136223846793005 + 1442695040888963407
		return int(n>>33) % bound
	}
}

// P9.1 to P9.4: worlds whose references, words and calls are whatever they are, with ways round, and nodes that there aren't.
func TestWhateverIsLaid(t *testing.T) {
	next := some()
	for range 4000 {
		w := fresh(t, api.Conf{Threads: 2, Buckets: 2, Inserts: 4, Calls: 4})
		for range 1 + next(8) {
			kind := api.Insert
			if next(8) == 0 {
				kind = 1 + next(4)
			}
			thread := next(2)
			if op, e := w.Book.Begin(thread, api.Call{Kind: kind, Key: uint64(next(4)), Val: uint64(next(3))}); e == api.OK {
				w.Turn(op, 0, uint64(next(4)))
				w.Book.Make(next(2), op)
			}
		}
		for range 6 {
			w.Book.Make(next(2), next(8))
		}
		for node := range 19 {
			w.Set(node, uint64(next(42)))
		}
		checkPlain(t, w)
		if t.Failed() {
			t.FailNow()
		}
	}
}

// P9.1 to P9.4: long chains, put in the turn of their keys, sound ones and others.
func TestLongChains(t *testing.T) {
	next := some()
	sounds := 0
	const all = 600
	for range all {
		w := fresh(t, api.Conf{Threads: 1, Buckets: 2, Inserts: 64, Calls: 64})
		var nodes [2][]int
		for key := range uint64(20) {
			bucket := w.Head(key) - 1
			for range next(3) {
				nodes[bucket] = append(nodes[bucket], mark(carry(t, w, insert(t, w, key, uint64(failed+next(3))))))
			}
			op := insert(t, w, key, uint64(next(3)))
			nodes[bucket] = append(nodes[bucket], carry(t, w, op))
			if next(3) == 0 {
				nodes[bucket] = append(nodes[bucket], mark(carry(t, w, op)))
			}
			if next(40) == 0 {
				nodes[bucket] = append(nodes[bucket], carry(t, w, insert(t, w, key, uint64(next(2)))))
			}
		}
		chain(w, 0, nodes[0]...)
		chain(w, 1, nodes[1]...)
		if checkPlain(t, w) {
			sounds++
		}
	}
	if sounds < all/4 || sounds == all {
		t.Errorf("%d of %d are sound", sounds, all)
	}
}

// P1, P9.1 to P9.3: one may look on while threads go on: where new keys alone come in, behind all others, it is sound all the time, and has no more than was laid.
func TestLookingOn(t *testing.T) {
	const many = 200
	w := fresh(t, api.Conf{Threads: 1, Buckets: 1, Inserts: many, Calls: many})
	var joined sync.WaitGroup
	joined.Go(func() {
		at := 1
		for key := range uint64(many) {
			op, _ := w.Book.Begin(0, api.Call{Kind: api.Insert, Key: key, Val: key + 1})
			node, _ := w.Book.Make(0, op)
			w.Set(at, uint64(2*node))
			w.Turn(op, pending, in)
			at = node
		}
	})
	for range many {
		checkSound(t, w, true)
		pairs := look.Pairs(w)
		for n, p := range pairs {
			if p.Val != p.Key+1 || n > 0 && p.Key <= pairs[n-1].Key {
				t.Errorf("pair %d is %v", n, p)
			}
		}
		for n, node := range look.Chain(w, 0) {
			if node != 2+n {
				t.Errorf("node %d is %d", n, node)
			}
		}
	}
	joined.Wait()
	if got := look.Pairs(w); len(got) != many || got[many-1].Val != many {
		t.Errorf("%v", got)
	}
}
