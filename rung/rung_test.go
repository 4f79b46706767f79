package rung_test

import (
	"math"
	"slices"
	"testing"

	"ropeladder/api"
	"ropeladder/rung"
)

// The bounds of the chapter, as numbers of its own.
const (
	count     = 8
	lastFrom  = 1152921504606846976 // 2^60
	lastWidth = 144115188075855873  // 2^57 + 1
)

// at returns an item at a time, with a sequence number and a slot that tell it from others.
func at(time int, seq int) api.Item { return api.Item{Time: time, Seq: seq, Slot: seq % 64} }

// rungOf returns a rung of eight buckets, with items where the map has some.
func rungOf(from int, width int, cur int, items map[int][]api.Item) api.Rung {
	r := api.Rung{From: from, Width: width, Cur: cur, Buckets: make([][]api.Item, count)}
	for i, list := range items {
		r.Buckets[i] = slices.Clone(list)
	}
	return r
}

// equal reports whether two rungs are equal; a nil and an empty slice are (P2).
func equal(a api.Rung, b api.Rung) bool {
	return a.From == b.From && a.Width == b.Width && a.Cur == b.Cur && slices.EqualFunc(a.Buckets, b.Buckets, slices.Equal[[]api.Item])
}

// sample returns a rung with the times 100 to 179 whose first two buckets are consumed, with two items in bucket 3 and one in bucket 6.
func sample() api.Rung {
	return rungOf(100, 10, 2, map[int][]api.Item{3: {at(135, 4), at(130, 1)}, 6: {at(169, 2)}})
}

// P7.1, G1: ordinary rungs, and the least and the greatest arguments.
func TestNew(t *testing.T) {
	cases := []struct{ from, width int }{
		{0, 1}, {10, 2}, {100, 10}, {math.MaxInt32, 3}, {0, lastWidth}, {lastFrom, 1}, {lastFrom, lastWidth},
	}
	for _, c := range cases {
		r := rung.New(c.from, c.width)
		if !equal(r, rungOf(c.from, c.width, 0, nil)) {
			t.Errorf("New(%d, %d) = %v", c.from, c.width, r)
		}
		if !rung.Valid(r) {
			t.Errorf("New(%d, %d) is not valid", c.from, c.width)
		}
		if n := rung.Len(r); n != 0 {
			t.Errorf("Len(New(%d, %d)) = %d", c.from, c.width, n)
		}
	}
}

// P7.1, G1: items in no, one, some and all buckets.
func TestLen(t *testing.T) {
	all := map[int][]api.Item{}
	for i := range count {
		all[i] = []api.Item{at(i, i), at(i, i+8), at(i, i+16)}
	}
	cases := []struct {
		r   api.Rung
		len int
	}{
		{rung.New(0, 1), 0},
		{rungOf(0, 1, 8, nil), 0},
		{rungOf(0, 1, 0, map[int][]api.Item{0: {at(0, 0)}}), 1},
		{rungOf(0, 1, 7, map[int][]api.Item{7: {at(7, 0), at(7, 1)}}), 2},
		{sample(), 3},
		{rungOf(0, 1, 0, all), 24},
	}
	for _, c := range cases {
		if n := rung.Len(c.r); n != c.len {
			t.Errorf("Len(%v) = %d, want %d", c.r, n, c.len)
		}
	}
}

// P7.1, G1: the first and the last current bucket, and the greatest times.
func TestCurrentAndEnd(t *testing.T) {
	cases := []struct{ from, width, cur, current, end int }{
		{0, 1, 0, 0, 8},
		{0, 1, 8, 8, 8},
		{10, 2, 0, 10, 26},
		{10, 2, 2, 14, 26},
		{100, 10, 7, 170, 180},
		{100, 10, 8, 180, 180},
		{0, lastWidth, 1, lastWidth, 1152921504606846984},
		{lastFrom, 1, 0, lastFrom, lastFrom + 8},
		{lastFrom, lastWidth, 0, lastFrom, 2305843009213693960},
		{lastFrom, lastWidth, 7, 2161727821137838087, 2305843009213693960},
		{lastFrom, lastWidth, 8, 2305843009213693960, 2305843009213693960},
	}
	for _, c := range cases {
		r := rungOf(c.from, c.width, c.cur, nil)
		if got := rung.Current(r); got != c.current {
			t.Errorf("Current(%v) = %d, want %d", r, got, c.current)
		}
		if got := rung.End(r); got != c.end {
			t.Errorf("End(%v) = %d, want %d", r, got, c.end)
		}
	}
	if c, e := rung.Current(sample()), rung.End(sample()); c != 120 || e != 180 {
		t.Errorf("with items: Current %d, End %d", c, e)
	}
}

// P7.1 and P7.2, G2: times that the rung has, at the first and the last time of a bucket, and into a bucket that holds items already.
func TestPut(t *testing.T) {
	wide := rungOf(lastFrom, lastWidth, 0, nil)
	cases := []struct {
		what   string
		r      api.Rung
		time   int
		bucket int
	}{
		{"first time", rung.New(10, 2), 10, 0},
		{"last time of bucket 0", rung.New(10, 2), 11, 0},
		{"first time of bucket 1", rung.New(10, 2), 12, 1},
		{"End - 1", rung.New(10, 2), 25, 7},
		{"Current", sample(), 120, 2},
		{"end of the current bucket", sample(), 129, 2},
		{"behind two items", sample(), 130, 3},
		{"behind two items, last time", sample(), 139, 3},
		{"behind an equal time", sample(), 135, 3},
		{"behind one item", sample(), 165, 6},
		{"empty bucket between", sample(), 155, 5},
		{"last bucket", sample(), 170, 7},
		{"End - 1 with items", sample(), 179, 7},
		{"only bucket 7 left", rungOf(100, 10, 7, nil), 170, 7},
		{"zero", rung.New(0, 1), 0, 0},
		{"width 1", rung.New(0, 1), 7, 7},
		{"MaxTime", rung.New(0, lastWidth), lastFrom, 7},
		{"greatest first time", wide, lastFrom, 0},
		{"greatest last time", wide, 2305843009213693959, 7},
	}
	for _, c := range cases {
		it := at(c.time, 9)
		want := rungOf(c.r.From, c.r.Width, c.r.Cur, nil)
		for i, list := range c.r.Buckets {
			want.Buckets[i] = slices.Clone(list)
		}
		want.Buckets[c.bucket] = append(want.Buckets[c.bucket], it)
		got, ok := rung.Put(c.r, it)
		if !ok || !equal(got, want) {
			t.Errorf("%s: Put(%v, %v) = %v, %t, want %v", c.what, c.r, it, got, ok, want)
		}
		if !rung.Valid(got) {
			t.Errorf("%s: Put(%v, %v) is not valid", c.what, c.r, it)
		}
	}
}

// P7.1, G2: the number of the item and its slot play no part.
func TestPutKeepsWholeItem(t *testing.T) {
	for _, it := range []api.Item{{Time: 13}, {Time: 13, Seq: -1, Slot: -1}, {Time: 13, Seq: math.MaxInt, Slot: math.MinInt}} {
		r, ok := rung.Put(rung.New(10, 2), it)
		if !ok || len(r.Buckets[1]) != 1 || r.Buckets[1][0] != it {
			t.Errorf("Put of %v: %v, %t", it, r, ok)
		}
		if !rung.Valid(r) {
			t.Errorf("%v is not valid", r)
		}
	}
}

// P7.1 and P7.2, G2: times before Current and from End on leave the rung as it is, and so does every time if no bucket is left.
func TestPutRefuses(t *testing.T) {
	spent := rungOf(100, 10, 8, nil)
	cases := []struct {
		what string
		r    api.Rung
		time int
	}{
		{"before Current", sample(), 119},
		{"first time of a consumed bucket", sample(), 110},
		{"From", sample(), 100},
		{"before From", sample(), 99},
		{"End", sample(), 180},
		{"after End", sample(), 181},
		{"far after End", sample(), lastFrom},
		{"before From, nothing consumed", rung.New(10, 2), 9},
		{"End, empty", rung.New(10, 2), 26},
		{"negative", rung.New(0, 1), -1},
		{"least", rung.New(0, 1), math.MinInt},
		{"greatest", rung.New(0, 1), math.MaxInt},
		{"least, greatest rung", rung.New(lastFrom, lastWidth), math.MinInt},
		{"greatest, greatest rung", rung.New(lastFrom, lastWidth), math.MaxInt},
		{"End, greatest rung", rung.New(lastFrom, lastWidth), 2305843009213693960},
		{"Cur 8, Current", spent, 180},
		{"Cur 8, End - 1", spent, 179},
		{"Cur 8, From", spent, 100},
		{"Cur 8, after End", spent, 190},
	}
	for _, c := range cases {
		got, ok := rung.Put(c.r, at(c.time, 9))
		if ok || !equal(got, c.r) {
			t.Errorf("%s: Put(%v) at %d = %v, %t", c.what, c.r, c.time, got, ok)
		}
		if !rung.Valid(got) {
			t.Errorf("%s: the rung is not valid", c.what)
		}
	}
}

// P7.1 and P7.2, G3: buckets at every place, with empty ones before, between and behind them.
func TestNext(t *testing.T) {
	cases := []struct {
		what  string
		r     api.Rung
		rest  api.Rung
		items []api.Item
		start int
		ok    bool
	}{
		{"first bucket",
			rungOf(0, 5, 0, map[int][]api.Item{0: {at(4, 1)}, 1: {at(5, 2)}}),
			rungOf(0, 5, 1, map[int][]api.Item{1: {at(5, 2)}}),
			[]api.Item{at(4, 1)}, 0, true},
		{"empty buckets first, order of addition",
			sample(),
			rungOf(100, 10, 4, map[int][]api.Item{6: {at(169, 2)}}),
			[]api.Item{at(135, 4), at(130, 1)}, 130, true},
		{"current bucket",
			rungOf(100, 10, 6, map[int][]api.Item{6: {at(169, 2), at(160, 3), at(169, 1)}}),
			rungOf(100, 10, 7, nil),
			[]api.Item{at(169, 2), at(160, 3), at(169, 1)}, 160, true},
		{"last bucket only",
			rungOf(100, 10, 0, map[int][]api.Item{7: {at(179, 2), at(170, 3)}}),
			rungOf(100, 10, 8, nil),
			[]api.Item{at(179, 2), at(170, 3)}, 170, true},
		{"last bucket, which is the current one",
			rungOf(100, 10, 7, map[int][]api.Item{7: {at(175, 0)}}),
			rungOf(100, 10, 8, nil),
			[]api.Item{at(175, 0)}, 170, true},
		{"greatest times",
			rungOf(lastFrom, lastWidth, 3, map[int][]api.Item{7: {at(2305843009213693959, 5)}}),
			rungOf(lastFrom, lastWidth, 8, nil),
			[]api.Item{at(2305843009213693959, 5)}, 2161727821137838087, true},
		{"empty", rung.New(100, 10), rungOf(100, 10, 8, nil), nil, 0, false},
		{"empty, part consumed", rungOf(100, 10, 5, nil), rungOf(100, 10, 8, nil), nil, 0, false},
		{"empty, all consumed", rungOf(100, 10, 8, nil), rungOf(100, 10, 8, nil), nil, 0, false},
	}
	for _, c := range cases {
		rest, items, start, ok := rung.Next(c.r)
		if !equal(rest, c.rest) || !slices.Equal(items, c.items) || start != c.start || ok != c.ok {
			t.Errorf("%s: Next(%v) = %v, %v, %d, %t", c.what, c.r, rest, items, start, ok)
		}
		if !rung.Valid(rest) {
			t.Errorf("%s: the rest %v is not valid", c.what, rest)
		}
	}
}

// P7.1, G3: behind the last item there is nothing, however often it is asked for.
func TestNextAgainBehindEnd(t *testing.T) {
	r, items, start, ok := rung.Next(rungOf(100, 10, 0, map[int][]api.Item{7: {at(175, 0)}}))
	for range 3 {
		if rung.Current(r) != 180 || rung.End(r) != 180 || rung.Len(r) != 0 {
			t.Errorf("%v, %v, %d, %t", r, items, start, ok)
		}
		r, items, start, ok = rung.Next(r)
		if ok || len(items) != 0 || start != 0 || !equal(r, rungOf(100, 10, 8, nil)) {
			t.Errorf("Next behind the end: %v, %v, %d, %t", r, items, start, ok)
		}
	}
}

// P7.1: the example of the chapter.
func TestExample(t *testing.T) {
	it := at(13, 1)
	r, ok := rung.Put(rung.New(10, 2), it)
	if !ok {
		t.Fatal("Put fails")
	}
	rest, items, start, ok := rung.Next(r)
	if !ok || !slices.Equal(items, []api.Item{it}) || start != 12 {
		t.Errorf("Next = %v, %v, %d, %t", rest, items, start, ok)
	}
	if c := rung.Current(rest); c != 14 {
		t.Errorf("Current = %d", c)
	}
}

// P2: results depend on the arguments alone, whatever was called before, and a nil bucket is an empty one.
func TestSameArgumentsSameResults(t *testing.T) {
	hollow := sample()
	for i, list := range hollow.Buckets {
		if len(list) == 0 {
			hollow.Buckets[i] = []api.Item{}
		}
	}
	for range 3 {
		for _, r := range []api.Rung{sample(), hollow} {
			if !rung.Valid(r) || rung.Len(r) != 3 || rung.Current(r) != 120 || rung.End(r) != 180 {
				t.Errorf("%v: %t, %d, %d, %d", r, rung.Valid(r), rung.Len(r), rung.Current(r), rung.End(r))
			}
			with, ok := rung.Put(r, at(121, 7))
			if !ok || rung.Len(with) != 4 || !slices.Equal(with.Buckets[2], []api.Item{at(121, 7)}) {
				t.Errorf("Put = %v, %t", with, ok)
			}
			rest, items, start, ok := rung.Next(r)
			if !ok || start != 130 || rest.Cur != 4 || !slices.Equal(items, []api.Item{at(135, 4), at(130, 1)}) {
				t.Errorf("Next = %v, %v, %d, %t", rest, items, start, ok)
			}
		}
		if !equal(rung.New(10, 2), rungOf(10, 2, 0, nil)) {
			t.Error("New")
		}
	}
}
