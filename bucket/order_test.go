package bucket_test

import (
	"math"
	"slices"
	"testing"

	"ropeladder/bucket"
)

// P6.3: all pairs of times of small partitions.
func TestOrderOfSmallPartitions(t *testing.T) {
	for from := range 4 {
		for _, width := range []int{1, 2, 3, 7, 8, 9, 16} {
			var times []int
			for time := from; time < from+10*width; time++ {
				times = append(times, time)
			}
			checkOrder(t, from, width, times)
		}
	}
}

// P6.3: all pairs of times around the bounds of buckets, and of times at the ends of their range.
func TestOrder(t *testing.T) {
	for _, from := range append(starts, lastTime-1, lastTime) {
		for _, width := range widths {
			checkOrder(t, from, width, timesFrom(from, width))
		}
	}
}

// timesFrom returns times that are not before from, in increasing order.
func timesFrom(from int, width int) []int {
	times := []int{math.MaxInt32, 1 << 32, lastMax - 1, lastMax, lastMax + 1, lastTime / 2, lastTime - 2, lastTime - 1, lastTime}
	for i := range 9 {
		times = append(times, from+i*width-1, from+i*width, from+i*width+1, from+i*width+width/2)
	}
	times = slices.DeleteFunc(times, func(time int) bool { return time < from || time > lastTime })
	slices.Sort(times)
	return slices.Compact(times)
}

// checkOrder checks all pairs of the given times, which are in increasing order.
func checkOrder(t *testing.T, from int, width int, times []int) {
	t.Helper()
	for k, late := range times {
		i := bucket.Index(from, width, late)
		for _, early := range times[:k] {
			j := bucket.Index(from, width, early)
			if j > i {
				t.Errorf("from %d, width %d: time %d has the index %d, and the later time %d has %d", from, width, early, j, late, i)
			}
			if j == i && late-early >= width {
				t.Errorf("from %d, width %d: the times %d and %d are both in bucket %d", from, width, early, late, i)
			}
		}
	}
}

// P6.1, F2: the first and the last time of a bucket have its index, the times next to them that of its neighbors.
func TestBoundsOfBuckets(t *testing.T) {
	for _, from := range starts {
		for _, width := range widths {
			for i := range 8 {
				first, end := bucket.Start(from, width, i), bucket.Start(from, width, i+1)
				if end-first != width {
					t.Errorf("bucket %d from %d of width %d has the bounds %d and %d", i, from, width, first, end)
				}
				for _, c := range []struct{ time, index int }{{first, i}, {end - 1, i}, {end, i + 1}} {
					if got := bucket.Index(from, width, c.time); got != c.index {
						t.Errorf("Index(%d, %d, %d) = %d, want %d", from, width, c.time, got, c.index)
					}
				}
			}
		}
	}
}
