package ladder_test

import (
	"math"
	"slices"
	"testing"

	"ropeladder/api"
	"ropeladder/ladder"
	"ropeladder/rung"
)

// P8.1, H1: valid queues at all bounds of their definition.
func TestValid(t *testing.T) {
	one := func(topStart int, r api.Rung) api.Ladder { return api.Ladder{TopStart: topStart, Rungs: []api.Rung{r}} }
	hollow := api.Ladder{Top: []api.Item{}, Rungs: []api.Rung{}, Bottom: []api.Item{}}
	cases := map[string]api.Ladder{
		"new":                            ladder.New(),
		"empty slices":                   hollow,
		"all places":                     sample(),
		"greatest TopStart":              {TopStart: lastStart},
		"Top at TopStart":                {TopStart: 10, Top: some(10, 12, 10)},
		"Top at the least time":          {Top: some(0)},
		"Top at the greatest time":       {TopStart: lastTime, Top: some(lastTime)},
		"four rungs":                     {TopStart: 8, Rungs: []api.Rung{rungOf(0, 1, 8, nil), rungOf(0, 1, 8, nil), rungOf(0, 1, 8, nil), rungOf(0, 1, 8, nil)}},
		"End at TopStart":                one(8, rungOf(0, 1, 0, nil)),
		"End after TopStart":             one(3, rungOf(0, 1, 0, nil)),
		"rung after TopStart":            one(3, rungOf(5, 1, 0, nil)),
		"item before TopStart":           one(8, rungOf(0, 1, 0, map[int][]api.Item{7: some(7)})),
		"item just before TopStart":      one(76, rungOf(0, 10, 0, map[int][]api.Item{7: some(75)})),
		"greatest time in a rung":        one(lastStart, rungOf(0, lastWidth, 0, map[int][]api.Item{7: some(lastTime)})),
		"End at Current of the previous": {TopStart: 80, Rungs: []api.Rung{rungOf(0, 10, 1, nil), rungOf(2, 1, 0, map[int][]api.Item{7: some(9)})}},
		"current after TopStart":         {TopStart: 20, Rungs: []api.Rung{rungOf(0, 10, 5, nil), rungOf(0, 3, 0, map[int][]api.Item{6: some(19)})}},
		"Bottom behind an item of none":  {TopStart: 10, Bottom: some(0, 1, 9)},
		"Bottom before a rung":           {TopStart: 80, Rungs: []api.Rung{rungOf(0, 10, 2, nil)}, Bottom: some(5, 19)},
		"Bottom after an inner rung":     {TopStart: 80, Rungs: []api.Rung{rungOf(0, 10, 2, nil), rungOf(10, 2, 5, nil)}, Bottom: some(19)},
		"Bottom before TopStart":         {TopStart: 8, Rungs: []api.Rung{rungOf(0, 2, 7, nil)}, Bottom: some(7)},
		"greatest time in Bottom":        {TopStart: lastStart, Bottom: some(lastTime)},
		"equal times in Top":             {Top: []api.Item{at(5, 2), at(5, 1)}},
		"equal times in Bottom":          {TopStart: 6, Bottom: []api.Item{at(5, 1), at(5, 2)}},
		"equal times in a bucket":        one(8, rungOf(0, 1, 0, map[int][]api.Item{5: {at(5, 2), at(5, 1)}})),
		"equal numbers in Top":           {Top: []api.Item{at(6, 1), at(5, 1)}},
		"equal numbers, other places":    {TopStart: 8, Top: []api.Item{at(8, 1)}, Rungs: []api.Rung{rungOf(0, 1, 4, map[int][]api.Item{5: {at(5, 1)}})}, Bottom: []api.Item{at(2, 1), at(3, 1)}},
		"numbers of no event":            {Top: []api.Item{{Time: 4, Seq: math.MinInt, Slot: math.MaxInt}}},
		"greatest counters":              {Moves: math.MaxInt, Compares: math.MaxInt},
	}
	for what, l := range cases {
		if !ladder.Valid(l) || !validByDefinition(l) {
			t.Errorf("%s: Valid(%v) = %t", what, l, ladder.Valid(l))
		}
	}
}

// faults returns changes of the sample, each with one fault.
func faults() map[string]func(l *api.Ladder) {
	return map[string]func(l *api.Ladder){
		"Moves below 0":                     func(l *api.Ladder) { l.Moves = -1 },
		"least Moves":                       func(l *api.Ladder) { l.Moves = math.MinInt },
		"Compares below 0":                  func(l *api.Ladder) { l.Compares = -1 },
		"least Compares":                    func(l *api.Ladder) { l.Compares = math.MinInt },
		"first item of Top before TopStart": func(l *api.Ladder) { l.Top[0].Time = 7499 },
		"last item of Top before TopStart":  func(l *api.Ladder) { l.Top[1].Time = 7499 },
		"TopStart after Top":                func(l *api.Ladder) { l.TopStart = 7501 },
		"time above 2^60 in Top":            func(l *api.Ladder) { l.Top[1].Time = lastTime + 1 },
		"greatest time in Top":              func(l *api.Ladder) { l.Top[0].Time = math.MaxInt },
		"fifth rung":                        func(l *api.Ladder) { l.Rungs, l.Bottom = append(l.Rungs, rungOf(115, 2, 8, nil)), nil },
		"width of a rung":                   func(l *api.Ladder) { l.Rungs[1] = rungOf(0, 0, 2, nil) },
		"Cur of a rung":                     func(l *api.Ladder) { l.Rungs[0].Cur = 2 },
		"Cur of the last rung":              func(l *api.Ladder) { l.Rungs[3].Cur = 9 },
		"seven buckets":                     func(l *api.Ladder) { l.Rungs[2].Buckets = l.Rungs[2].Buckets[:7] },
		"zero rung":                         func(l *api.Ladder) { l.Rungs[3] = api.Rung{} },
		"bucket of an item":                 func(l *api.Ladder) { l.Rungs[2].Buckets[3][0].Time = 189 },
		"End of rung 0 before TopStart":     func(l *api.Ladder) { l.TopStart, l.Top = 8001, nil },
		"End of rung 1 before its bound":    func(l *api.Ladder) { l.Rungs[1].Buckets[7] = nil; l.Rungs[1].Width = 124; l.Rungs[1].Cur = 2 },
		"End of rung 3 before its bound":    func(l *api.Ladder) { l.Rungs[3] = rungOf(124, 2, 4, nil) },
		"item of rung 0 at its bound":       func(l *api.Ladder) { l.Rungs[0].Buckets[7][0].Time = 7500 },
		"last item of rung 0 at its bound":  func(l *api.Ladder) { l.Rungs[0].Buckets[7][1].Time = 7500 },
		"item of rung 2 at its bound":       func(l *api.Ladder) { l.Rungs[2].Buckets[7] = []api.Item{at(250, 70)} },
		"item of rung 2 after its bound":    func(l *api.Ladder) { l.Rungs[2].Buckets[7] = []api.Item{at(252, 70)} },
		"item of rung 1 in a consumed part": func(l *api.Ladder) { l.Rungs[0].Cur = 0 },
		"Bottom decreasing":                 func(l *api.Ladder) { l.Bottom[0], l.Bottom[1] = l.Bottom[1], l.Bottom[0] },
		"Bottom decreasing at its end":      func(l *api.Ladder) { l.Bottom[2], l.Bottom[3] = l.Bottom[3], l.Bottom[2] },
		"Bottom, equal times, numbers":      func(l *api.Ladder) { l.Bottom[1].Seq, l.Bottom[2].Seq = 16, 14 },
		"Bottom, two equal items":           func(l *api.Ladder) { l.Bottom[2].Seq = 14 },
		"Bottom at the last rung's Current": func(l *api.Ladder) { l.Bottom[3].Time = 131 },
		"Bottom, time below 0":              func(l *api.Ladder) { l.Bottom[0].Time = -1 },
		"Bottom, least time":                func(l *api.Ladder) { l.Bottom[0].Time = math.MinInt },
		"equal items in Top":                func(l *api.Ladder) { l.Top = append(l.Top, l.Top[0]) },
		"equal but for the slot in Top":     func(l *api.Ladder) { l.Top = append(l.Top, api.Item{Time: 9000, Seq: 3, Slot: 1}) },
		"equal items in a bucket":           func(l *api.Ladder) { l.Rungs[0].Buckets[7][1] = l.Rungs[0].Buckets[7][0] },
		"equal items, others between": func(l *api.Ladder) {
			l.Rungs[3].Buckets[4] = append(l.Rungs[3].Buckets[4], api.Item{Time: 134, Seq: 10})
		},
		"equal items in Top and a rung":    func(l *api.Ladder) { l.Top = append(l.Top, l.Rungs[0].Buckets[1][0]) },
		"equal items in Top and Bottom":    func(l *api.Ladder) { l.Top = append(l.Top, l.Bottom[3]) },
		"equal items in a rung and Bottom": func(l *api.Ladder) { l.Bottom = append(l.Bottom, l.Rungs[3].Buckets[4][1]) },
		"equal items in two rungs":         func(l *api.Ladder) { l.Rungs[2].Buckets[7] = []api.Item{l.Rungs[1].Buckets[2][1]} },
	}
}

// P8.1, H1: one fault of each kind in a queue that is valid otherwise.
func TestInvalid(t *testing.T) {
	for what, change := range faults() {
		l := sample()
		change(&l)
		if ladder.Valid(l) || validByDefinition(l) {
			t.Errorf("%s: Valid(%v) = %t", what, l, ladder.Valid(l))
		}
	}
	cases := map[string]api.Ladder{
		"TopStart below 0":               {TopStart: -1},
		"TopStart below 0, Top":          {TopStart: -1, Top: some(5)},
		"least TopStart":                 {TopStart: math.MinInt},
		"TopStart above 2^60+1":          {TopStart: lastStart + 1},
		"greatest TopStart":              {TopStart: math.MaxInt},
		"Top below 0":                    {Top: some(-1)},
		"Top above 2^60":                 {Top: some(lastTime + 1)},
		"Top above 2^60, TopStart":       {TopStart: lastStart, Top: some(lastStart)},
		"Bottom at TopStart":             {TopStart: 10, Bottom: some(10)},
		"Bottom at TopStart 0":           {Bottom: some(0)},
		"Bottom above 2^60":              {TopStart: lastStart, Bottom: some(lastTime + 1)},
		"Bottom at TopStart, late rung":  {TopStart: 8, Rungs: []api.Rung{rungOf(0, 2, 7, nil)}, Bottom: some(8)},
		"Bottom at an outer Current":     {TopStart: 80, Rungs: []api.Rung{rungOf(0, 10, 2, nil), rungOf(10, 2, 6, nil)}, Bottom: some(20)},
		"rung above 2^60":                {TopStart: lastStart, Rungs: []api.Rung{rungOf(lastTime, 1, 0, map[int][]api.Item{1: some(lastTime + 1)})}},
		"rung of five, all empty":        {TopStart: 8, Rungs: slices.Repeat([]api.Rung{rungOf(0, 1, 8, nil)}, 5)},
		"inner rung ends at no bound":    {TopStart: 80, Rungs: []api.Rung{rungOf(0, 10, 1, nil), rungOf(1, 1, 0, nil)}},
		"bound is TopStart, not Current": {TopStart: 20, Rungs: []api.Rung{rungOf(0, 10, 5, nil), rungOf(0, 3, 0, map[int][]api.Item{6: some(20)})}},
		"bound of an outer rung":         {TopStart: 80, Rungs: []api.Rung{rungOf(0, 10, 1, nil), rungOf(8, 1, 8, nil), rungOf(4, 1, 0, map[int][]api.Item{7: some(11)})}},
	}
	for what, l := range cases {
		if ladder.Valid(l) || validByDefinition(l) {
			t.Errorf("%s: Valid(%v) = %t", what, l, ladder.Valid(l))
		}
	}
}

// validByDefinition is the chapter's definition, one sentence after the other.
func validByDefinition(l api.Ladder) bool {
	ok := l.TopStart >= 0 && l.TopStart <= lastStart && len(l.Rungs) <= 4 && l.Moves >= 0 && l.Compares >= 0
	for _, it := range l.Top {
		ok = ok && it.Time >= l.TopStart
	}
	bottomBound, bound := l.TopStart, l.TopStart
	for i, r := range l.Rungs {
		if i > 0 {
			bound = min(bound, rung.Current(l.Rungs[i-1]))
		}
		ok = ok && rung.Valid(r) && rung.End(r) >= bound
		for _, list := range r.Buckets {
			for _, it := range list {
				ok = ok && it.Time < bound
			}
		}
		bottomBound = min(bottomBound, rung.Current(r))
	}
	for i, it := range l.Bottom {
		ok = ok && it.Time < bottomBound
		if i > 0 {
			before := l.Bottom[i-1]
			ok = ok && (before.Time < it.Time || before.Time == it.Time && before.Seq < it.Seq)
		}
	}
	seen := map[[2]int]bool{}
	for _, it := range listed(l) {
		ok = ok && it.Time >= 0 && it.Time <= lastTime && !seen[[2]int{it.Time, it.Seq}]
		seen[[2]int{it.Time, it.Seq}] = true
	}
	return ok
}

// P8.1, H1: small queues of all kinds, most of them not valid, against the definition.
func TestValidAgainstDefinition(t *testing.T) {
	d := dice(3)
	valid := 0
	for range 100000 {
		l := api.Ladder{TopStart: d.below(20) - 1}
		seq := 0
		next := func(time int) api.Item {
			// Most items have a number of their own.
			seq += min(1, d.below(20))
			return at(time, seq)
		}
		for range d.below(3) {
			l.Top = append(l.Top, next(l.TopStart-1+d.below(6)))
		}
		upper := l.TopStart
		for range d.below(3) {
			r := rungOf(max(0, upper-8+d.below(6)), 1+d.below(2), d.below(9), nil)
			for range d.below(3) {
				i := d.below(8)
				r.Buckets[i] = append(r.Buckets[i], next(r.From+i*r.Width+d.below(r.Width)))
			}
			l.Rungs = append(l.Rungs, r)
			upper = min(upper, rung.Current(r))
		}
		for k := range d.below(3) {
			l.Bottom = append(l.Bottom, next(upper-3+k+d.below(2)))
		}
		got := ladder.Valid(l)
		if got {
			valid++
		}
		if want := validByDefinition(l); got != want {
			t.Errorf("Valid(%v) = %t, want %t", l, got, want)
		}
	}
	if valid < 1000 {
		t.Errorf("only %d of the queues are valid", valid)
	}
}

// callAll calls every function with a queue, and the functions of the results of some, until the queue is empty or does not get shorter.
func callAll(l api.Ladder, times []int) {
	ladder.Valid(l)
	ladder.Len(l)
	for _, time := range times {
		with := ladder.Insert(l, at(time, 3))
		ladder.Valid(with)
		ladder.Peek(with)
		ladder.Pop(with)
	}
	ladder.Peek(l)
	for range ladder.Len(l) + 1 {
		rest, _, ok := ladder.Pop(l)
		if !ok {
			return
		}
		l = rest
	}
}

// P1: every function returns for all arguments: queues that are not valid, and integers at the ends of their range.
func TestAllArguments(t *testing.T) {
	extremes := []int{math.MinInt, -lastTime, -1, 0, 1, 8, lastWidth, lastTime, lastStart, lastStart + 1, math.MaxInt}
	var items []api.Item
	for i, time := range extremes {
		items = append(items, at(time, i), api.Item{Time: time, Seq: math.MinInt}, api.Item{Time: time, Seq: math.MaxInt})
	}
	for _, start := range extremes {
		for _, counter := range []int{math.MinInt, 0, math.MaxInt} {
			for _, list := range [][]api.Item{nil, {}, items[:1], items[len(items)-5:], items} {
				callAll(api.Ladder{TopStart: start, Top: list, Bottom: list, Moves: counter, Compares: counter}, extremes)
				callAll(api.Ladder{TopStart: start, Top: list, Moves: counter, Compares: counter}, extremes)
				callAll(api.Ladder{TopStart: start, Bottom: list, Moves: counter, Compares: counter}, extremes)
			}
		}
	}
}

// P1: every function returns for queues whose rungs are not valid, of which there may be too many.
func TestAllRungs(t *testing.T) {
	extremes := []int{math.MinInt, -lastTime, -9, -1, 0, 1, 2, 8, 9, lastWidth, lastTime, math.MaxInt}
	crowded := make([][]api.Item, 9)
	for i := range crowded {
		for k, time := range extremes {
			crowded[i] = append(crowded[i], at(time, i*20+k))
		}
	}
	shapes := [][][]api.Item{nil, {}, {nil}, crowded[:1], make([][]api.Item, 7), crowded[:8], crowded}
	for _, from := range extremes {
		for _, width := range extremes {
			for _, cur := range []int{math.MinInt, -1, 0, 1, 8, 9, math.MaxInt} {
				for _, buckets := range shapes {
					r := api.Rung{From: from, Width: width, Cur: cur, Buckets: buckets}
					callAll(api.Ladder{TopStart: 100, Rungs: []api.Rung{r}}, []int{0, math.MinInt})
				}
			}
			for _, n := range []int{2, 3, 4, 5, 9} {
				r := api.Rung{From: from, Width: width, Buckets: crowded}
				callAll(api.Ladder{TopStart: from, Top: crowded[0], Rungs: slices.Repeat([]api.Rung{r}, n)}, []int{0, math.MaxInt})
			}
		}
	}
	for _, change := range faults() {
		l := sample()
		change(&l)
		callAll(l, extremes)
	}
	callAll(api.Ladder{Rungs: make([]api.Rung, 100)}, extremes)
}

// P1: inserting an item that the queue has already, and items at times that no event has.
func TestInsertOthers(t *testing.T) {
	for _, l := range []api.Ladder{ladder.New(), sample()} {
		for _, it := range append(listed(l), at(-1, 90), at(math.MinInt, 91), at(lastTime+1, 92), at(math.MaxInt, 93)) {
			with := ladder.Insert(l, it)
			if ladder.Valid(with) {
				t.Errorf("Insert(%v, %v) is valid", l, it)
			}
			callAll(with, []int{it.Time})
		}
	}
}
