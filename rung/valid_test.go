package rung_test

import (
	"math"
	"slices"
	"testing"

	"ropeladder/api"
	"ropeladder/rung"
)

// P7.1, G1: valid rungs at all bounds of their definition.
func TestValid(t *testing.T) {
	edges := map[int][]api.Item{}
	for i := range count {
		edges[i] = []api.Item{at(100+10*i+9, i), at(100+10*i, i)}
	}
	hollow := rung.New(5, 5)
	for i := range hollow.Buckets {
		hollow.Buckets[i] = []api.Item{}
	}
	cases := map[string]api.Rung{
		"empty":                       rung.New(10, 2),
		"least":                       rungOf(0, 1, 0, nil),
		"greatest":                    rungOf(lastFrom, lastWidth, 8, nil),
		"buckets that are not nil":    hollow,
		"first and last times":        rungOf(100, 10, 0, edges),
		"sample":                      sample(),
		"item in the current bucket":  rungOf(100, 10, 6, map[int][]api.Item{6: {at(160, 0)}}),
		"item in the last bucket":     rungOf(100, 10, 7, map[int][]api.Item{7: {at(170, 0)}}),
		"width 1":                     rungOf(0, 1, 0, map[int][]api.Item{0: {at(0, 0)}, 7: {at(7, 0)}}),
		"equal items":                 rungOf(100, 10, 0, map[int][]api.Item{0: {at(105, 0), at(105, 0)}}),
		"items at the greatest times": rungOf(lastFrom, lastWidth, 0, map[int][]api.Item{0: {at(lastFrom, 0)}, 7: {at(2305843009213693959, 0)}}),
		"numbers of no event":         rungOf(100, 10, 0, map[int][]api.Item{0: {{Time: 100, Seq: math.MinInt, Slot: math.MaxInt}}}),
		"items in the widest buckets": rungOf(0, lastWidth, 0, map[int][]api.Item{0: {at(lastWidth-1, 0)}, 1: {at(lastWidth, 0)}}),
		"more items than are sorted":  rungOf(0, 9, 0, map[int][]api.Item{2: {at(18, 1), at(19, 2), at(26, 3), at(20, 4), at(20, 5), at(25, 6)}}),
	}
	for what, r := range cases {
		if !rung.Valid(r) {
			t.Errorf("%s: %v is not valid", what, r)
		}
	}
}

// P7.1, G1: one fault of each kind in a rung that is valid otherwise.
func TestInvalid(t *testing.T) {
	shorter, longer := sample(), sample()
	shorter.Buckets = shorter.Buckets[:7]
	longer.Buckets = append(longer.Buckets, nil)
	longerWithItem := sample()
	longerWithItem.Buckets = append(longerWithItem.Buckets, []api.Item{at(180, 0)})
	cases := map[string]api.Rung{
		"zero":                        {},
		"From below 0":                rungOf(-1, 10, 0, nil),
		"From below 0, item":          rungOf(-1, 10, 0, map[int][]api.Item{0: {at(5, 0)}}),
		"least From":                  rungOf(math.MinInt, 10, 0, nil),
		"From above 2^60":             rungOf(lastFrom+1, 10, 0, nil),
		"greatest From":               rungOf(math.MaxInt, 10, 0, nil),
		"Width 0":                     rungOf(100, 0, 0, nil),
		"Width below 0":               rungOf(100, -1, 0, nil),
		"least Width":                 rungOf(100, math.MinInt, 0, nil),
		"Width above 2^57+1":          rungOf(100, lastWidth+1, 0, nil),
		"greatest Width":              rungOf(100, math.MaxInt, 0, nil),
		"Cur below 0":                 rungOf(100, 10, -1, nil),
		"least Cur":                   rungOf(100, 10, math.MinInt, nil),
		"Cur above 8":                 rungOf(100, 10, 9, nil),
		"greatest Cur":                rungOf(100, 10, math.MaxInt, nil),
		"nil buckets":                 {From: 100, Width: 10},
		"no buckets":                  {From: 100, Width: 10, Buckets: [][]api.Item{}},
		"7 buckets":                   shorter,
		"9 buckets":                   longer,
		"9 buckets, item in the last": longerWithItem,
		"item before Cur":             rungOf(100, 10, 1, map[int][]api.Item{0: {at(105, 0)}}),
		"item just before Cur":        rungOf(100, 10, 4, map[int][]api.Item{3: {at(135, 0)}, 5: {at(155, 0)}}),
		"item in the last, Cur 8":     rungOf(100, 10, 8, map[int][]api.Item{7: {at(175, 0)}}),
		"before bucket 0":             rungOf(100, 10, 0, map[int][]api.Item{0: {at(99, 0)}}),
		"after bucket 0":              rungOf(100, 10, 0, map[int][]api.Item{0: {at(110, 0)}}),
		"before bucket 4":             rungOf(100, 10, 2, map[int][]api.Item{4: {at(139, 0)}}),
		"after bucket 4":              rungOf(100, 10, 2, map[int][]api.Item{4: {at(150, 0)}}),
		"before bucket 7":             rungOf(100, 10, 2, map[int][]api.Item{7: {at(169, 0)}}),
		"after bucket 7":              rungOf(100, 10, 2, map[int][]api.Item{7: {at(180, 0)}}),
		"second item before":          rungOf(100, 10, 2, map[int][]api.Item{4: {at(140, 0), at(139, 0)}}),
		"last item after":             rungOf(100, 10, 2, map[int][]api.Item{4: {at(140, 0), at(149, 0), at(150, 0)}}),
		"first item after":            rungOf(100, 10, 2, map[int][]api.Item{7: {at(180, 0), at(175, 0), at(178, 0)}}),
		"negative time":               rungOf(0, 10, 0, map[int][]api.Item{0: {at(-1, 0)}}),
		"least time":                  rungOf(0, 10, 0, map[int][]api.Item{0: {at(math.MinInt, 0)}}),
		"greatest time":               rungOf(0, 10, 0, map[int][]api.Item{7: {at(math.MaxInt, 0)}}),
		"after the greatest times":    rungOf(lastFrom, lastWidth, 0, map[int][]api.Item{7: {at(2305843009213693960, 0)}}),
		"before the greatest times":   rungOf(lastFrom, lastWidth, 0, map[int][]api.Item{0: {at(lastFrom-1, 0)}}),
	}
	for what, r := range cases {
		if rung.Valid(r) {
			t.Errorf("%s: %v is valid", what, r)
		}
	}
}

// validByDefinition is the chapter's definition for small rungs, with the times of each bucket written out.
func validByDefinition(r api.Rung) bool {
	if r.From < 0 || r.Width < 1 || r.Cur < 0 || r.Cur > 8 || len(r.Buckets) != 8 {
		return false
	}
	for i, list := range r.Buckets {
		var times []int
		for n := range r.Width {
			times = append(times, r.From+i*r.Width+n)
		}
		for _, it := range list {
			if i < r.Cur || !slices.Contains(times, it.Time) {
				return false
			}
		}
	}
	return true
}

// P7.1, G1: every item in every bucket of small rungs, against the definition.
func TestValidAgainstDefinition(t *testing.T) {
	for from := -1; from < 3; from++ {
		for width := -1; width < 4; width++ {
			for cur := -2; cur < 11; cur++ {
				for time := -3; time < 32; time++ {
					for i := range count {
						r := rungOf(from, width, cur, map[int][]api.Item{i: {at(time, 0)}})
						if got, want := rung.Valid(r), validByDefinition(r); got != want {
							t.Errorf("Valid(%v) = %t, want %t", r, got, want)
						}
					}
				}
			}
		}
	}
}

// P1: every function returns for all arguments: rungs that are not valid, rungs with no buckets, and integers at the ends of their range.
func TestAllArguments(t *testing.T) {
	extremes := []int{math.MinInt, math.MinInt + 1, -lastFrom, -9, -8, -1, 0, 1, 7, 8, 9, lastWidth, lastWidth + 1, lastFrom, lastFrom + 1, math.MaxInt - 1, math.MaxInt}
	shapes := [][][]api.Item{nil, {}, {nil}, {{at(0, 0)}}, make([][]api.Item, 7), make([][]api.Item, 8), make([][]api.Item, 9)}
	crowded := make([][]api.Item, 9)
	for i := range crowded {
		for _, time := range extremes {
			crowded[i] = append(crowded[i], at(time, i))
		}
	}
	shapes = append(shapes, crowded[:1], crowded[:8], crowded)
	for _, from := range extremes {
		for _, width := range extremes {
			rung.New(from, width)
			for _, cur := range extremes {
				for _, buckets := range shapes {
					r := api.Rung{From: from, Width: width, Cur: cur, Buckets: buckets}
					rung.Valid(r)
					rung.Len(r)
					rung.Current(r)
					rung.End(r)
					rung.Next(r)
				}
			}
		}
	}
	few := []int{math.MinInt, -8, -1, 0, 1, 8, lastWidth, lastFrom, math.MaxInt}
	for _, from := range few {
		for _, width := range few {
			for _, cur := range few {
				for _, buckets := range shapes {
					for _, time := range extremes {
						rung.Put(api.Rung{From: from, Width: width, Cur: cur, Buckets: buckets}, at(time, 0))
					}
				}
			}
		}
	}
}
