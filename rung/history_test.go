package rung_test

import (
	"slices"
	"testing"

	"ropeladder/api"
	"ropeladder/rung"
)

// history is a rung and what the operations on it must have led to.
type history struct {
	rung    api.Rung
	from    int
	width   int
	cur     int
	pending []api.Item // in the order in which they were added
	seq     int
}

func begin(from int, width int) history {
	return history{rung: rung.New(from, width), from: from, width: width}
}

// bucketOf returns the bucket of a time of the rung, counted from the first one.
func (h *history) bucketOf(time int) int {
	i := 0
	for time >= h.from+(i+1)*h.width {
		i++
	}
	return i
}

// put adds an item and checks that it is refused exactly if its bucket is consumed or does not exist (P7.1), and that the rung stays valid (P7.2).
func (h *history) put(t *testing.T, time int) {
	t.Helper()
	it := at(time, h.seq)
	h.seq++
	wanted := h.from+h.cur*h.width <= time && time < h.from+8*h.width
	got, ok := rung.Put(h.rung, it)
	if ok != wanted {
		t.Fatalf("Put(%v, %v) = %v, %t", h.rung, it, got, ok)
	}
	if !ok && !equal(got, h.rung) {
		t.Fatalf("Put(%v, %v) fails and returns %v", h.rung, it, got)
	}
	if ok {
		h.pending = append(h.pending, it)
	}
	h.rung = got
	h.check(t)
}

// next takes a bucket and checks that it is the first one with items (P7.1), that the rung stays valid (P7.2), and that its items precede all that remain (P7.3).
func (h *history) next(t *testing.T) bool {
	t.Helper()
	before := h.rung
	rest, items, start, ok := rung.Next(before)
	h.rung = rest
	if len(h.pending) == 0 {
		h.cur = 8
		if ok || len(items) != 0 || start != 0 {
			t.Fatalf("Next(%v) = %v, %v, %d, %t", before, rest, items, start, ok)
		}
		h.check(t)
		return false
	}
	first := 8
	for _, it := range h.pending {
		first = min(first, h.bucketOf(it.Time))
	}
	var want, left []api.Item
	for _, it := range h.pending {
		if h.bucketOf(it.Time) == first {
			want = append(want, it)
		} else {
			left = append(left, it)
		}
	}
	if !ok || !slices.Equal(items, want) || start != h.from+first*h.width {
		t.Fatalf("Next(%v) = %v, %v, %d, %t, want %v", before, rest, items, start, ok, want)
	}
	h.cur, h.pending = first+1, left
	h.check(t)
	for _, early := range items {
		for _, late := range rest.Buckets {
			for _, it := range late {
				if early.Time >= it.Time {
					t.Fatalf("Next(%v) returns %v before %v", before, early, it)
				}
			}
		}
	}
	return true
}

// check compares the rung with the history that led to it.
func (h *history) check(t *testing.T) {
	t.Helper()
	want := rungOf(h.from, h.width, h.cur, nil)
	for _, it := range h.pending {
		i := h.bucketOf(it.Time)
		want.Buckets[i] = append(want.Buckets[i], it)
	}
	if !equal(h.rung, want) {
		t.Fatalf("rung %v, want %v", h.rung, want)
	}
	if !rung.Valid(h.rung) {
		t.Fatalf("%v is not valid", h.rung)
	}
	if n := rung.Len(h.rung); n != len(h.pending) {
		t.Fatalf("Len(%v) = %d, want %d", h.rung, n, len(h.pending))
	}
	if c, e := rung.Current(h.rung), rung.End(h.rung); c != h.from+h.cur*h.width || e != h.from+8*h.width {
		t.Fatalf("%v: Current %d, End %d", h.rung, c, e)
	}
}

// P7.1 to P7.3: all short sequences of operations on a rung of width 1 and on one of width 2.
func TestShortHistories(t *testing.T) {
	for width := 1; width <= 2; width++ {
		extend(t, begin(3, width), 3)
	}
}

// extend continues a history with all sequences of that many operations.
func extend(t *testing.T, h history, operations int) {
	if operations == 0 {
		return
	}
	for time := h.from - 1; time <= h.from+8*h.width; time++ {
		with := h
		with.pending = slices.Clone(h.pending)
		with.put(t, time)
		extend(t, with, operations-1)
	}
	rest := h
	rest.pending = slices.Clone(h.pending)
	rest.next(t)
	extend(t, rest, operations-1)
}

// dice is a generator of numbers that are the same in every run.
type dice uint64

// below returns a number less than n.
func (d *dice) below(n int) int {
	*d = *d*6364136223846793005 + 1442695040888963407
	return int(uint64(*d)>>33) % n
}

// P7.1 to P7.3: long sequences of operations on rungs of all sizes, with times around the rung's ends, too.
func TestLongHistories(t *testing.T) {
	rungs := []struct{ from, width int }{{0, 1}, {0, 3}, {7, 2}, {100, 10}, {1000, 1024}, {0, lastWidth}, {lastFrom, 1}, {lastFrom, lastWidth}}
	d := dice(1)
	for _, c := range rungs {
		for range 40 {
			h := begin(c.from, c.width)
			for range 30 {
				if d.below(8) == 0 {
					h.next(t)
					continue
				}
				place := d.below(11) - 1
				offset := []int{0, c.width - 1, c.width / 2, d.below(c.width)}[d.below(4)]
				h.put(t, c.from+place*c.width+offset)
			}
			for h.next(t) {
			}
			h.next(t)
		}
	}
}

// P7.3: if no items are added in between, every item of a call of Next precedes every item of all later calls, and none is lost.
func TestOrderOfConsumption(t *testing.T) {
	d := dice(2)
	for _, width := range []int{1, 2, 5, 100, lastWidth} {
		for n := range 60 {
			r := rung.New(50, width)
			for seq := range n {
				time := 50 + d.below(8)*width + d.below(width)
				with, ok := rung.Put(r, at(time, seq))
				if !ok {
					t.Fatalf("Put(%v) at %d fails", r, time)
				}
				r = with
			}
			taken, last := 0, -1
			for {
				rest, items, start, ok := rung.Next(r)
				if !ok {
					break
				}
				// All items taken so far are at most at the time last.
				least, greatest := items[0].Time, items[0].Time
				for i, it := range items {
					least, greatest = min(least, it.Time), max(greatest, it.Time)
					if i > 0 && items[i-1].Seq >= it.Seq {
						t.Fatalf("%v: not in the order of addition", items)
					}
				}
				if least <= last || least < start || greatest >= start+width {
					t.Fatalf("width %d: %v, bucket at %d, after time %d", width, items, start, last)
				}
				taken, last, r = taken+len(items), greatest, rest
			}
			if taken != n {
				t.Fatalf("%d items of %d are returned", taken, n)
			}
		}
	}
}
