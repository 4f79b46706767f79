package ladder_test

import (
	"math"
	"slices"
	"testing"

	"ropeladder/api"
	"ropeladder/ladder"
)

// The bounds of the chapter, as numbers of its own.
const (
	lastTime  = 1152921504606846976 // 2^60
	lastStart = 1152921504606846977 // 2^60 + 1
	lastWidth = 144115188075855873  // 2^57 + 1
)

// at returns an item at a time, with a sequence number and a slot that tell it from others.
func at(time int, seq int) api.Item { return api.Item{Time: time, Seq: seq, Slot: 63 - seq%64} }

// some returns items at the given times, numbered from 1 in their order.
func some(times ...int) []api.Item {
	var list []api.Item
	for i, time := range times {
		list = append(list, at(time, i+1))
	}
	return list
}

// rungOf returns a rung of eight buckets, with items where the map has some.
func rungOf(from int, width int, cur int, items map[int][]api.Item) api.Rung {
	r := api.Rung{From: from, Width: width, Cur: cur, Buckets: make([][]api.Item, 8)}
	for i, list := range items {
		r.Buckets[i] = slices.Clone(list)
	}
	return r
}

// equalRungs reports whether two rungs are equal; a nil and an empty slice are (P2).
func equalRungs(a api.Rung, b api.Rung) bool {
	return a.From == b.From && a.Width == b.Width && a.Cur == b.Cur && slices.EqualFunc(a.Buckets, b.Buckets, slices.Equal[[]api.Item])
}

// equal reports whether two queues are equal; a nil and an empty slice are (P2).
func equal(a api.Ladder, b api.Ladder) bool {
	return a.TopStart == b.TopStart && a.Moves == b.Moves && a.Compares == b.Compares &&
		slices.Equal(a.Top, b.Top) && slices.Equal(a.Bottom, b.Bottom) && slices.EqualFunc(a.Rungs, b.Rungs, equalRungs)
}

// copyOf returns a copy of the queue.
func copyOf(l api.Ladder) api.Ladder {
	l.Top, l.Bottom = slices.Clone(l.Top), slices.Clone(l.Bottom)
	var rungs []api.Rung
	for _, r := range l.Rungs {
		var buckets [][]api.Item
		for _, list := range r.Buckets {
			buckets = append(buckets, slices.Clone(list))
		}
		r.Buckets = buckets
		rungs = append(rungs, r)
	}
	l.Rungs = rungs
	return l
}

// sample returns a queue with items in all places. Top has the times from 7500 on, the rungs those from 1000, 250, 141 and 131 on, and Bottom all before.
func sample() api.Ladder {
	return api.Ladder{
		TopStart: 7500,
		Top:      []api.Item{at(9000, 3), at(7500, 9)},
		Rungs: []api.Rung{
			rungOf(0, 1000, 1, map[int][]api.Item{1: {at(1500, 1)}, 7: {at(7499, 2), at(7000, 5)}}),
			rungOf(0, 125, 2, map[int][]api.Item{2: {at(260, 4), at(250, 6)}, 7: {at(999, 7)}}),
			rungOf(125, 16, 1, map[int][]api.Item{3: {at(180, 8)}}),
			rungOf(125, 2, 3, map[int][]api.Item{4: {at(134, 10), at(133, 11), at(133, 12)}}),
		},
		Bottom:   []api.Item{at(120, 13), at(126, 14), at(126, 16), at(130, 0)},
		Moves:    77,
		Compares: 44,
	}
}

// P8.1, H1: the zero queue, which is valid and empty.
func TestNew(t *testing.T) {
	l := ladder.New()
	if !equal(l, api.Ladder{}) || !ladder.Valid(l) || ladder.Len(l) != 0 {
		t.Errorf("New() = %v, Valid %t, Len %d", l, ladder.Valid(l), ladder.Len(l))
	}
}

// P8.1, H1: items in each place alone, and in all places.
func TestLen(t *testing.T) {
	cases := []struct {
		what string
		l    api.Ladder
		len  int
	}{
		{"empty", api.Ladder{TopStart: 10}, 0},
		{"empty rungs", api.Ladder{TopStart: 8, Rungs: []api.Rung{rungOf(0, 1, 2, nil), rungOf(0, 1, 0, nil)}}, 0},
		{"Top", api.Ladder{Top: some(5, 4, 9)}, 3},
		{"Bottom", api.Ladder{TopStart: 10, Bottom: some(5, 7)}, 2},
		{"one rung", api.Ladder{TopStart: 8, Rungs: []api.Rung{rungOf(0, 1, 0, map[int][]api.Item{0: some(0, 0), 7: some(7)})}}, 3},
		{"two rungs", api.Ladder{TopStart: 16, Rungs: []api.Rung{
			rungOf(0, 2, 1, map[int][]api.Item{7: some(14)}), rungOf(0, 1, 0, map[int][]api.Item{1: some(1)})}}, 2},
		{"all places", sample(), 2 + 3 + 3 + 1 + 3 + 4},
	}
	for _, c := range cases {
		if n := ladder.Len(c.l); n != c.len || !ladder.Valid(c.l) {
			t.Errorf("%s: Len(%v) = %d, want %d; Valid %t", c.what, c.l, n, c.len, ladder.Valid(c.l))
		}
	}
}

// Places for expectations of Insert: Top, Bottom, or the number of a rung.
const (
	inTop    = -1
	inBottom = -2
)

// P8.1 and P8.2, H2: every place of a queue with four rungs, at its first and its last time, and the comparisons until it is found.
func TestInsert(t *testing.T) {
	cases := []struct {
		what     string
		time     int
		seq      int
		place    int
		index    int // the bucket, or the position in Bottom
		compares int
	}{
		{"TopStart", 7500, 50, inTop, 0, 1},
		{"after TopStart", 7501, 50, inTop, 0, 1},
		{"greatest time", lastTime, 50, inTop, 0, 1},
		{"before TopStart", 7499, 50, 0, 7, 2},
		{"inside rung 0", 3210, 50, 0, 3, 2},
		{"current time of rung 0", 1000, 50, 0, 1, 2},
		{"before rung 0", 999, 50, 1, 7, 3},
		{"inside rung 1", 400, 50, 1, 3, 3},
		{"current time of rung 1", 250, 50, 1, 2, 3},
		{"before rung 1", 249, 50, 2, 7, 4},
		{"current time of rung 2", 141, 50, 2, 1, 4},
		{"before rung 2", 140, 50, 3, 7, 5},
		{"inside rung 3", 133, 50, 3, 4, 5},
		{"current time of rung 3", 131, 50, 3, 3, 5},
		{"before rung 3, behind Bottom", 130, 50, inBottom, 4, 5},
		{"equal time, lesser number, last", 130, -1, inBottom, 3, 5},
		{"between, its own time", 128, 50, inBottom, 3, 5},
		{"between equal times", 126, 15, inBottom, 2, 5},
		{"behind equal times", 126, 17, inBottom, 3, 5},
		{"before equal times", 126, 13, inBottom, 1, 5},
		{"before Bottom", 119, 50, inBottom, 0, 5},
		{"before Bottom, equal time", 120, 12, inBottom, 0, 5},
		{"behind the first, equal time", 120, 50, inBottom, 1, 5},
		{"least time", 0, 50, inBottom, 0, 5},
	}
	for _, c := range cases {
		it := at(c.time, c.seq)
		want := sample()
		switch c.place {
		case inTop:
			want.Top = append(want.Top, it)
		case inBottom:
			want.Bottom = slices.Insert(want.Bottom, c.index, it)
		default:
			list := &want.Rungs[c.place].Buckets[c.index]
			*list = append(*list, it)
		}
		want.Moves, want.Compares = 78, 44+c.compares
		got := ladder.Insert(sample(), it)
		if !equal(got, want) {
			t.Errorf("%s: Insert of %v = %v, want %v", c.what, it, got, want)
		}
		if !ladder.Valid(got) || ladder.Len(got) != 17 {
			t.Errorf("%s: Insert of %v: Valid %t, Len %d", c.what, it, ladder.Valid(got), ladder.Len(got))
		}
	}
}

// P8.1 and P8.2, H2: queues with no rung and with one.
func TestInsertFewRungs(t *testing.T) {
	none := func(bottom ...api.Item) api.Ladder { return api.Ladder{TopStart: 10, Bottom: bottom} }
	one := api.Ladder{TopStart: 79, Rungs: []api.Rung{rungOf(0, 10, 3, nil)}}
	cases := []struct {
		what string
		l    api.Ladder
		it   api.Item
		want api.Ladder
	}{
		{"empty queue", ladder.New(), at(5, 1), api.Ladder{Top: some(5), Moves: 1, Compares: 1}},
		{"empty queue, least time", ladder.New(), at(0, 1), api.Ladder{Top: some(0), Moves: 1, Compares: 1}},
		{"Top stays unsorted", api.Ladder{Top: some(5, 9)}, at(2, 3), api.Ladder{Top: some(5, 9, 2), Moves: 1, Compares: 1}},
		{"no rung, TopStart", none(), at(10, 1), api.Ladder{TopStart: 10, Top: some(10), Moves: 1, Compares: 1}},
		{"no rung, before TopStart", none(), at(9, 1), api.Ladder{TopStart: 10, Bottom: some(9), Moves: 1, Compares: 1}},
		{"no rung, between", none(some(3, 8)...), at(5, 9), api.Ladder{TopStart: 10, Bottom: []api.Item{at(3, 1), at(5, 9), at(8, 2)}, Moves: 1, Compares: 1}},
		{"one rung, TopStart", one, at(79, 1), api.Ladder{TopStart: 79, Top: some(79), Rungs: one.Rungs, Moves: 1, Compares: 1}},
		{"one rung, before TopStart", one, at(78, 1), api.Ladder{TopStart: 79, Rungs: []api.Rung{rungOf(0, 10, 3, map[int][]api.Item{7: some(78)})}, Moves: 1, Compares: 2}},
		{"one rung, current time", one, at(30, 1), api.Ladder{TopStart: 79, Rungs: []api.Rung{rungOf(0, 10, 3, map[int][]api.Item{3: some(30)})}, Moves: 1, Compares: 2}},
		{"one rung, before it", one, at(29, 1), api.Ladder{TopStart: 79, Rungs: one.Rungs, Bottom: some(29), Moves: 1, Compares: 2}},
		{"greatest TopStart", api.Ladder{TopStart: lastStart}, at(lastTime, 1), api.Ladder{TopStart: lastStart, Bottom: some(lastTime), Moves: 1, Compares: 1}},
	}
	for _, c := range cases {
		got := ladder.Insert(c.l, c.it)
		if !equal(got, c.want) || !ladder.Valid(got) {
			t.Errorf("%s: Insert(%v, %v) = %v, want %v; Valid %t", c.what, c.l, c.it, got, c.want, ladder.Valid(got))
		}
	}
}

// P8.1, H2: the whole item is kept, wherever it goes.
func TestInsertKeepsWholeItem(t *testing.T) {
	for _, time := range []int{8000, 2000, 500, 200, 135, 5} {
		for _, it := range []api.Item{{Time: time, Seq: -1, Slot: -1}, {Time: time, Seq: math.MaxInt, Slot: math.MinInt}} {
			l := ladder.Insert(sample(), it)
			if list := listed(l); !slices.Contains(list, it) || len(list) != 17 || !ladder.Valid(l) {
				t.Errorf("Insert of %v = %v", it, l)
			}
		}
	}
}

// listed returns all items of a queue.
func listed(l api.Ladder) []api.Item {
	list := slices.Concat(l.Top, l.Bottom)
	for _, r := range l.Rungs {
		for _, bucket := range r.Buckets {
			list = append(list, bucket...)
		}
	}
	return list
}

// P8.1, H3: the example of the chapter.
func TestExample(t *testing.T) {
	l := ladder.New()
	for i, time := range []int{5, 3, 9} {
		l = ladder.Insert(l, at(time, i))
	}
	if l, it, ok := ladder.Pop(l); !ok || it != at(3, 1) || ladder.Len(l) != 2 {
		t.Errorf("Pop = %v, %v, %t", l, it, ok)
	}
}

// P8.1, H3: the fifth example of DOC.md.
func TestExampleWithRung(t *testing.T) {
	l := ladder.New()
	for i, time := range []int{100, 90, 80, 70, 60, 50} {
		l = ladder.Insert(l, at(time, i))
	}
	l, it, ok := ladder.Pop(l)
	want := api.Ladder{
		TopStart: 101,
		Rungs:    []api.Rung{rungOf(50, 7, 1, map[int][]api.Item{1: {at(60, 4)}, 2: {at(70, 3)}, 4: {at(80, 2)}, 5: {at(90, 1)}, 7: {at(100, 0)}})},
		Moves:    6 + 6 + 1,
		Compares: 6,
	}
	if !ok || it != at(50, 5) || !equal(l, want) {
		t.Errorf("Pop = %v, %v, %t, want %v", l, it, ok, want)
	}
}

// P2: results depend on the arguments alone, whatever was called before, and a nil list is an empty one.
func TestSameArgumentsSameResults(t *testing.T) {
	bare, hollow := sample(), sample()
	bare.Top, bare.Bottom = nil, nil
	hollow.Top, hollow.Bottom = []api.Item{}, []api.Item{}
	for i, r := range hollow.Rungs {
		for k, list := range r.Buckets {
			if len(list) == 0 {
				hollow.Rungs[i].Buckets[k] = []api.Item{}
			}
		}
	}
	empty := api.Ladder{Top: []api.Item{}, Rungs: []api.Rung{}, Bottom: []api.Item{}}
	for range 3 {
		for _, pair := range [][2]api.Ladder{{bare, hollow}, {ladder.New(), empty}, {sample(), sample()}} {
			a, b := pair[0], pair[1]
			if !ladder.Valid(a) || !ladder.Valid(b) || ladder.Len(a) != ladder.Len(b) {
				t.Errorf("Valid and Len of %v and %v differ", a, b)
			}
			for _, time := range []int{8000, 7499, 500, 200, 135, 5} {
				if x, y := ladder.Insert(a, at(time, 99)), ladder.Insert(b, at(time, 99)); !equal(x, y) {
					t.Errorf("Insert at %d: %v and %v", time, x, y)
				}
			}
			for _, f := range []func(api.Ladder) (api.Ladder, api.Item, bool){ladder.Peek, ladder.Pop} {
				x, p, okX := f(a)
				y, q, okY := f(b)
				if !equal(x, y) || p != q || okX != okY {
					t.Errorf("%v, %v, %t and %v, %v, %t", x, p, okX, y, q, okY)
				}
			}
		}
		if !equal(ladder.New(), api.Ladder{}) {
			t.Error("New")
		}
	}
}
