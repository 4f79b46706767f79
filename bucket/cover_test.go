package bucket_test

import (
	"math"
	"testing"

	"ropeladder/bucket"
)

// widths are widths in increasing order: the least and the greatest ones, those around multiples of 8, and those around the limits of narrower integers.
var widths = []int{
	1, 2, 3, 7, 8, 9, 15, 16, 17, 63, 64, 65, 1000003,
	math.MaxInt32 - 1, math.MaxInt32, math.MaxInt32 + 1, math.MaxUint32, math.MaxUint32 + 1, 1<<53 - 1, 1 << 53, 1<<53 + 1,
	lastWidth/2 - 1, lastWidth / 2, lastWidth/2 + 1, lastWidth - 9, lastWidth - 2, lastWidth - 1, lastWidth,
}

// lengths are differences of times: each of them just below, at and just above a multiple of 8.
var lengths = []int{
	0, 1, 7, 8, 9, 15, 16, 17, 63, 64, 65, 4095, 4096, 4097,
	math.MaxInt32, math.MaxInt32 + 1, math.MaxInt32 + 2, math.MaxUint32, math.MaxUint32 + 1, 1<<53 - 1, 1 << 53, 1<<53 + 1,
	lastMax/2 - 1, lastMax / 2, lastMax/2 + 1, lastMax - 9, lastMax - 8, lastMax - 7, lastMax - 1, lastMax,
}

// starts are the first times of partitions.
var starts = []int{0, 1, 5, 7, 8, 9, math.MaxInt32, 1 << 32, lastMax/2 - 1, lastMax / 2, lastMax - 1, lastMax}

// P6.2: every time of a short interval has an index in 0..7.
func TestWidthCoversShortIntervals(t *testing.T) {
	for _, min := range []int{0, 1, 6, 7, 8, 9, 1000, lastMax - 150} {
		for max := min; max <= min+150; max++ {
			width := bucket.Width(min, max)
			for time := min; time <= max; time++ {
				if i := bucket.Index(min, width, time); i < 0 || i > 7 {
					t.Errorf("time %d of %d..%d has the index %d", time, min, max, i)
				}
			}
		}
	}
}

// P6.2: the ends of an interval of any length, the times around the bounds of its buckets, and those of a coarse grid have indices in 0..7.
func TestWidthCoversIntervals(t *testing.T) {
	for _, length := range lengths {
		for _, min := range []int{0, 1, 5, (lastMax - length) / 2, lastMax - length} {
			max := min + length
			if max > lastMax {
				continue
			}
			width := bucket.Width(min, max)
			if width < 1 || width > lastWidth {
				t.Errorf("Width(%d, %d) = %d is no width", min, max, width)
				continue
			}
			for _, time := range timesOf(min, max, width) {
				if i := bucket.Index(min, width, time); i < 0 || i > 7 {
					t.Errorf("time %d of %d..%d has the index %d", time, min, max, i)
				}
			}
		}
	}
}

// timesOf returns times of the interval: its ends, those around the bounds of its buckets, and a coarse grid.
func timesOf(min int, max int, width int) []int {
	times := []int{min, max}
	add := func(time int) {
		if min <= time && time <= max {
			times = append(times, time)
		}
	}
	for i := range 9 {
		add(min + i*width - 1)
		add(min + i*width)
		add(min + i*width + 1)
	}
	for i := range 101 {
		add(min + (max-min)/100*i)
	}
	return times
}

// P6.1, F1: the width is the least one with which eight buckets cover the interval.
func TestWidthIsLeast(t *testing.T) {
	for _, length := range lengths {
		width := bucket.Width(0, length)
		if width > 1 && bucket.Index(0, width-1, length) < 8 {
			t.Errorf("the width %d of 0..%d is greater than it need be", width, length)
		}
	}
}

// P6.2: the eight buckets of a narrowed partition cover each bucket of the original one.
func TestNarrowCovers(t *testing.T) {
	for _, from := range starts {
		for _, width := range widths {
			narrow := bucket.Narrow(width)
			if narrow < 1 || narrow > width {
				t.Fatalf("Narrow(%d) = %d is no width of a part", width, narrow)
			}
			for i := range 8 {
				checkCover(t, bucket.Start(from, width, i), width, narrow)
			}
		}
	}
}

// checkCover checks that the eight narrow buckets from a bucket's first time on contain that bucket.
func checkCover(t *testing.T, first int, width int, narrow int) {
	t.Helper()
	if end := first + 8*narrow; end < first+width {
		t.Errorf("buckets of width %d from %d end at %d, before %d", narrow, first, end, first+width)
	}
	for _, offset := range []int{0, 1, width / 8, width / 3, width / 2, width - width/8, width - 2, width - 1} {
		if offset < 0 || offset >= width {
			continue
		}
		if i := bucket.Index(first, narrow, first+offset); i < 0 || i > 7 {
			t.Errorf("time %d of the bucket from %d of width %d has the index %d after narrowing", first+offset, first, width, i)
		}
	}
}

// P6.2: every time of a bucket of small width has an index in 0..7 after narrowing.
func TestNarrowCoversSmallBuckets(t *testing.T) {
	for width := 1; width <= 300; width++ {
		narrow := bucket.Narrow(width)
		for offset := range width {
			if i := bucket.Index(40, narrow, 40+offset); i < 0 || i > 7 {
				t.Errorf("time %d of a bucket of width %d has the index %d after narrowing", offset, width, i)
			}
		}
	}
}

// P6.2: narrowed again and again, a partition of the longest interval still covers its bucket, down to the width 1.
func TestNarrowRepeatedly(t *testing.T) {
	first, width := 0, bucket.Width(0, lastMax)
	for range 30 {
		narrow := bucket.Narrow(width)
		checkCover(t, first, width, narrow)
		first, width = bucket.Start(first, narrow, 7), narrow
	}
	if width != 1 {
		t.Errorf("the width is %d in the end, want 1", width)
	}
}
