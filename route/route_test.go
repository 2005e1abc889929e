package route_test

import (
	"math"
	"math/big"
	"testing"

	"corrie/api"
	"corrie/route"
)

// counts are the numbers of buckets that there may be, each twice the one ahead of it.
var counts = [7]int{1, 2, 4, 8, 16, 32, 64}

// wrongCounts are numbers of buckets that there may not be: powers of two beyond the bounds, neighbours of those within, and numbers that are within only where they are cut short.
func wrongCounts() []int {
	wrong := []int{
		0, 3, 5, 6, 7, 9, 10, 12, 15, 17, 24, 31, 33, 48, 62, 63, 65, 66, 96, 127, 128, 129, 256, 512, 1024,
		-1, -2, -3, -4, -8, -16, -32, -63, -64, -65, -128,
		1<<31 - 1, math.MaxInt, math.MaxInt - 1, math.MaxInt - 63, math.MinInt, math.MinInt + 1, math.MinInt + 64,
	}
	for _, n := range counts {
		for p := 7; p < 63; p++ {
			wrong = append(wrong, 1<<p+n, -1<<p+n)
		}
	}
	for p := 7; p < 63; p++ {
		wrong = append(wrong, 1<<p, -1<<p)
	}
	return wrong
}

// someKeys are the least keys, the greatest ones, those about each power of two, and those whose products are at the bounds of buckets.
func someKeys() []uint64 {
	var keys []uint64
	for k := range uint64(1000) {
		keys = append(keys, k, math.MaxUint64-k)
	}
	for power := 10; power < 64; power++ {
		keys = append(keys, 1<<power-1, 1<<power, 1<<power+1)
	}
	for bucket := range uint64(64) {
		least := bucket << 58
		keys = append(keys, keyOfProduct(least), keyOfProduct(least-1), keyOfProduct(least+1))
	}
	return keys
}

// keyOfProduct is the key that has this product with the factor, modulo 2^64: 17428512612931826493 has the product 1.
func keyOfProduct(product uint64) uint64 {
	return product * 17428512612931826493
}

// told is what the chapter's words say, by numbers without a bound: the product modulo 2^64, parted into so many parts of one size.
func told(key uint64, buckets int) int {
	modulus := new(big.Int).Lsh(big.NewInt(1), 64)
	factor := new(big.Int).SetUint64(11400714819323198485)
	product := new(big.Int).Mul(new(big.Int).SetUint64(key), factor)
	product.Mod(product, modulus)
	product.Mul(product, big.NewInt(int64(buckets)))
	return int(product.Div(product, modulus).Int64())
}

// P3.1: there may be as many buckets as a power of two from 1 to 64 says, and no others.
func TestMayOfSmallNumbers(t *testing.T) {
	may := map[int]bool{}
	for _, n := range counts {
		may[n] = true
	}
	for n := -300; n <= 3000; n++ {
		if got := route.May(n); got != may[n] {
			t.Errorf("May(%d) = %t, not %t", n, got, may[n])
		}
	}
}

// P3.1: the greatest number that there may be is the limit of package api.
func TestMayAtTheLimit(t *testing.T) {
	if !route.May(api.MaxBuckets) {
		t.Errorf("May(%d) = false, though that is MaxBuckets", api.MaxBuckets)
	}
	if route.May(2 * api.MaxBuckets) {
		t.Errorf("May(%d) = true, though that is above MaxBuckets", 2*api.MaxBuckets)
	}
}

// P3.1: wrong numbers of buckets may not be, however great, or far below 0.
func TestMayOfWrongNumbers(t *testing.T) {
	for _, n := range wrongCounts() {
		if route.May(n) {
			t.Errorf("May(%d) = true", n)
		}
	}
}

// P3.1: keys' buckets, of 1, 2, 4, 8, 16, 32 and 64.
func TestBucketsOfKeys(t *testing.T) {
	for _, c := range []struct {
		key  uint64
		want [7]int
	}{
		{0, [7]int{0, 0, 0, 0, 0, 0, 0}},
		{1, [7]int{0, 1, 2, 4, 9, 19, 39}},
		{2, [7]int{0, 0, 0, 1, 3, 7, 15}},
		{3, [7]int{0, 1, 3, 6, 13, 27, 54}},
		{4, [7]int{0, 0, 1, 3, 7, 15, 30}},
		{5, [7]int{0, 0, 0, 0, 1, 2, 5}},
		{9, [7]int{0, 1, 2, 4, 8, 17, 35}},
		{63, [7]int{0, 1, 3, 7, 14, 29, 59}},
		{64, [7]int{0, 1, 2, 4, 8, 17, 35}},
		{1000, [7]int{0, 0, 0, 0, 0, 1, 2}},
		{1 << 31, [7]int{0, 1, 2, 5, 11, 23, 47}},
		{1<<32 - 1, [7]int{0, 1, 3, 7, 14, 28, 56}},
		{1 << 32, [7]int{0, 0, 1, 3, 7, 15, 31}},
		{1 << 58, [7]int{0, 0, 1, 2, 5, 10, 21}},
		{1 << 62, [7]int{0, 0, 1, 2, 4, 8, 16}},
		{1<<63 - 1, [7]int{0, 1, 3, 7, 14, 28, 56}},
		{1 << 63, [7]int{0, 1, 2, 4, 8, 16, 32}},
		{math.MaxUint64 - 1, [7]int{0, 1, 3, 6, 12, 24, 48}},
		{math.MaxUint64, [7]int{0, 0, 1, 3, 6, 12, 24}},
		{17428512612931826493, [7]int{0, 0, 0, 0, 0, 0, 0}},   // its product is 1
		{1018231460777725123, [7]int{0, 1, 3, 7, 15, 31, 63}}, // its product is 2^64 less 1
		{10241603497632500931, [7]int{0, 0, 1, 3, 7, 15, 31}}, // its product is 2^63 less 1
		{17582052945254416384, [7]int{0, 0, 0, 0, 0, 0, 1}},   // its product is 2^58
		{153540332322589891, [7]int{0, 0, 0, 0, 0, 0, 0}},     // its product is 2^58 less 1
	} {
		for i, n := range counts {
			if got := route.Bucket(c.key, n); got != c.want[i] {
				t.Errorf("Bucket(%d, %d) = %d, not %d", c.key, n, got, c.want[i])
			}
		}
	}
}

// P3.1: whatever the key, its bucket is what the product's highest bits say.
func TestBucketsAreTheHighestBits(t *testing.T) {
	for _, key := range someKeys() {
		for _, n := range counts {
			if got, want := route.Bucket(key, n), told(key, n); got != want {
				t.Errorf("Bucket(%d, %d) = %d, not %d", key, n, got, want)
			}
		}
	}
}

// P3.1: where there may not be so many buckets every key has the bucket 0.
func TestBucketsOfWrongNumbers(t *testing.T) {
	keys := []uint64{0, 1, 2, 3, 1000, 1<<32 - 1, 1 << 63, 1018231460777725123, math.MaxUint64}
	for _, n := range wrongCounts() {
		for _, key := range keys {
			if got := route.Bucket(key, n); got != 0 {
				t.Errorf("Bucket(%d, %d) = %d, not 0", key, n, got)
			}
		}
	}
}

// P3.2: each key has one of the buckets, and each bucket has keys.
func TestEachKeyHasOneOfTheBuckets(t *testing.T) {
	for _, n := range counts {
		has := make([]int, n)
		for _, key := range someKeys() {
			bucket := route.Bucket(key, n)
			if bucket < 0 || bucket >= n {
				t.Fatalf("Bucket(%d, %d) = %d, which isn't one of them", key, n, bucket)
			}
			has[bucket]++
		}
		for bucket, keys := range has {
			if keys == 0 {
				t.Errorf("no key has the bucket %d of %d", bucket, n)
			}
		}
	}
}

// P3.2: with twice as many buckets a key has one of the two that its own was parted into, and both of them have keys.
func TestTwiceAsManyPartEachBucket(t *testing.T) {
	for _, n := range counts[:len(counts)-1] {
		has := make([][2]int, n)
		for _, key := range someKeys() {
			whole, part := route.Bucket(key, n), route.Bucket(key, 2*n)
			if part/2 != whole {
				t.Fatalf("the key %d has the bucket %d of %d, but %d of %d", key, whole, n, part, 2*n)
			}
			has[whole][part%2]++
		}
		for bucket, keys := range has {
			if keys[0] == 0 || keys[1] == 0 {
				t.Errorf("the bucket %d of %d isn't parted: %v", bucket, n, keys)
			}
		}
	}
}

// P3.1, R4: the same key has the same bucket each time, whatever was asked in between.
func TestBucketStays(t *testing.T) {
	for _, n := range counts {
		first := route.Bucket(12345, n)
		for _, key := range someKeys() {
			route.Bucket(key, n)
		}
		if again := route.Bucket(12345, n); again != first {
			t.Errorf("Bucket(12345, %d) = %d, and then %d", n, first, again)
		}
	}
}
