package bucket_test

import (
	"math"
	"testing"

	"ropeladder/bucket"
)

// The bounds of the chapter, as numbers of its own.
const (
	lastMax   = 1152921504606846976 // 2^60, the greatest end of an interval
	lastTime  = 4611686018427387904 // 2^62
	lastWidth = 144115188075855873  // 2^57 + 1
)

// P6.1, F1: the chapter's example, ordinary intervals, and the shortest and the longest ones.
func TestWidthCases(t *testing.T) {
	cases := []struct{ min, max, width int }{
		{10, 25, 2},
		{0, 0, 1},
		{25, 25, 1},
		{lastMax, lastMax, 1},
		{0, 1, 1},
		{0, 6, 1},
		{0, 7, 1},
		{0, 8, 2},
		{0, 9, 2},
		{0, 15, 2},
		{0, 16, 3},
		{0, 17, 3},
		{50, 100, 7},
		{13, 20, 1},
		{13, 21, 2},
		{13, 22, 2},
		{100, 1000, 113},
		{0, math.MaxInt32, 268435456},
		{0, math.MaxInt32 + 1, 268435457},
		{0, math.MaxUint32 + 1, 536870913},
		{0, lastMax - 1, 144115188075855872},
		{0, lastMax, lastWidth},
		{1, lastMax, 144115188075855872},
		{lastMax - 7, lastMax, 1},
		{lastMax - 8, lastMax, 2},
		{lastMax - 9, lastMax, 2},
	}
	for _, c := range cases {
		if w := bucket.Width(c.min, c.max); w != c.width {
			t.Errorf("Width(%d, %d) = %d, want %d", c.min, c.max, w, c.width)
		}
	}
}

// P6.1, F1: the chapter's example, and the widths around multiples of 8.
func TestNarrowCases(t *testing.T) {
	cases := []struct{ width, narrow int }{
		{9, 2},
		{1, 1},
		{2, 1},
		{7, 1},
		{8, 1},
		{10, 2},
		{15, 2},
		{16, 2},
		{17, 3},
		{64, 8},
		{65, 9},
		{1000, 125},
		{1001, 126},
		{math.MaxInt32, 268435456},
		{math.MaxInt32 + 1, 268435456},
		{math.MaxInt32 + 2, 268435457},
		{math.MaxUint32 + 2, 536870913},
		{lastWidth - 2, 18014398509481984},
		{lastWidth - 1, 18014398509481984},
		{lastWidth, 18014398509481985},
	}
	for _, c := range cases {
		if n := bucket.Narrow(c.width); n != c.narrow {
			t.Errorf("Narrow(%d) = %d, want %d", c.width, n, c.narrow)
		}
	}
}

// P6.1, F2: the chapter's example, the first and the last times of buckets, indices beyond 7, and the greatest times and widths.
func TestIndexCases(t *testing.T) {
	cases := []struct{ from, width, t, index int }{
		{10, 2, 25, 7},
		{10, 2, 24, 7},
		{10, 2, 26, 8},
		{10, 2, 10, 0},
		{10, 2, 11, 0},
		{10, 2, 12, 1},
		{10, 2, 13, 1},
		{100, 10, 139, 3},
		{100, 10, 140, 4},
		{0, 1, 0, 0},
		{0, 1, 7, 7},
		{0, 1, 8, 8},
		{0, 1, lastMax, lastMax},
		{0, 1, lastTime, lastTime},
		{1, 1, lastTime, lastTime - 1},
		{0, 7, 6, 0},
		{0, 7, 7, 1},
		{0, 7, 56, 8},
		{5, 9, 13, 0},
		{5, 9, 14, 1},
		{5, 9, 76, 7},
		{5, 9, 77, 8},
		{0, 3, 1<<32 + 2, 1431655766},
		{0, lastWidth, lastWidth - 1, 0},
		{0, lastWidth, lastWidth, 1},
		{0, lastWidth, lastMax, 7},
		{0, lastWidth, lastMax + 7, 7},
		{0, lastWidth, lastMax + 8, 8},
		{0, lastWidth, lastTime, 31},
		{0, lastWidth - 1, lastTime, 32},
		{lastMax, 1, lastMax, 0},
		{lastMax, lastWidth, lastTime, 23},
		{lastTime - 1, 1, lastTime, 1},
		{lastTime, 1, lastTime, 0},
		{lastTime, lastWidth, lastTime, 0},
	}
	for _, c := range cases {
		if i := bucket.Index(c.from, c.width, c.t); i != c.index {
			t.Errorf("Index(%d, %d, %d) = %d, want %d", c.from, c.width, c.t, i, c.index)
		}
	}
}

// P6.1, F2: ordinary buckets, the first one, the end of the last one, and the greatest arguments.
func TestStartCases(t *testing.T) {
	cases := []struct{ from, width, i, start int }{
		{10, 2, 0, 10},
		{10, 2, 1, 12},
		{10, 2, 7, 24},
		{10, 2, 8, 26},
		{100, 10, 8, 180},
		{0, 1, 0, 0},
		{0, 1, 8, 8},
		{0, 9, 3, 27},
		{50, 7, 5, 85},
		{math.MaxInt32, 1, 1, math.MaxInt32 + 1},
		{0, math.MaxInt32, 2, 4294967294},
		{0, lastWidth, 0, 0},
		{0, lastWidth, 1, lastWidth},
		{0, lastWidth, 8, lastMax + 8},
		{lastMax, 1, 0, lastMax},
		{lastMax, 1, 8, lastMax + 8},
		{lastMax, lastWidth, 0, lastMax},
		{lastMax, lastWidth, 7, 2161727821137838087},
		{lastMax, lastWidth, 8, 2305843009213693960},
	}
	for _, c := range cases {
		if s := bucket.Start(c.from, c.width, c.i); s != c.start {
			t.Errorf("Start(%d, %d, %d) = %d, want %d", c.from, c.width, c.i, s, c.start)
		}
	}
}

// countDown returns a/b rounded down, for small numbers, without a division.
func countDown(a int, b int) int {
	n := 0
	for a >= b {
		a -= b
		n++
	}
	return n
}

// P6.1, F1: all short intervals and all small widths, against the definitions.
func TestWidthsAgainstDefinition(t *testing.T) {
	for min := range 70 {
		for max := min; max < min+200; max++ {
			if got, want := bucket.Width(min, max), countDown(max-min, 8)+1; got != want {
				t.Errorf("Width(%d, %d) = %d, want %d", min, max, got, want)
			}
		}
	}
	for width := 1; width < 3000; width++ {
		// The least n for which eight buckets of width n are at least as long as the given one.
		want := 0
		for 8*want < width {
			want++
		}
		if got := bucket.Narrow(width); got != want {
			t.Errorf("Narrow(%d) = %d, want %d", width, got, want)
		}
	}
}

// P6.1, F2: all times of the buckets of small partitions, against the definition of a bucket.
func TestPartitionsAgainstDefinition(t *testing.T) {
	for from := range 20 {
		for width := 1; width <= 20; width++ {
			first := from
			for i := range 9 {
				if s := bucket.Start(from, width, i); s != first {
					t.Errorf("Start(%d, %d, %d) = %d, want %d", from, width, i, s, first)
				}
				for offset := range width {
					if got := bucket.Index(from, width, first+offset); got != i {
						t.Errorf("Index(%d, %d, %d) = %d, want %d", from, width, first+offset, got, i)
					}
				}
				first += width
			}
		}
	}
}

// P2: results depend on the arguments alone, whatever was called before.
func TestSameArgumentsSameResults(t *testing.T) {
	for range 3 {
		if w := bucket.Width(10, 25); w != 2 {
			t.Errorf("Width(10, 25) = %d", w)
		}
		if n := bucket.Narrow(9); n != 2 {
			t.Errorf("Narrow(9) = %d", n)
		}
		if i := bucket.Index(10, 2, 25); i != 7 {
			t.Errorf("Index(10, 2, 25) = %d", i)
		}
		if s := bucket.Start(10, 2, 8); s != 26 {
			t.Errorf("Start(10, 2, 8) = %d", s)
		}
		bucket.Width(math.MaxInt, math.MinInt)
		bucket.Narrow(math.MinInt)
		bucket.Index(0, 0, 1)
		bucket.Start(math.MaxInt, math.MaxInt, math.MaxInt)
	}
}

// P1: every function returns for all arguments, also for widths that no partition has, for reversed intervals, and where a difference or a product wraps around.
func TestAllArguments(t *testing.T) {
	extremes := []int{
		math.MinInt, math.MinInt + 1, math.MinInt + 8, -lastTime, -lastMax, -lastWidth, math.MinInt32 - 1, math.MinInt32, -9, -8, -7, -2, -1,
		0, 1, 2, 7, 8, 9, math.MaxInt32, math.MaxInt32 + 1, math.MaxUint32, 1 << 32, lastWidth, lastWidth + 1, lastMax, lastMax + 1, lastTime, lastTime + 1, math.MaxInt - 1, math.MaxInt,
	}
	for _, a := range extremes {
		bucket.Narrow(a)
		for _, b := range extremes {
			bucket.Width(a, b)
			for _, c := range extremes {
				bucket.Index(a, b, c)
				bucket.Start(a, b, c)
			}
		}
	}
}
