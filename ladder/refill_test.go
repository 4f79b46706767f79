package ladder_test

import (
	"testing"

	"ropeladder/api"
	"ropeladder/ladder"
)

// refillCase is a queue and what refilling makes of it.
type refillCase struct {
	what string
	l    api.Ladder
	want api.Ladder
}

// checkRefill tests Peek and Pop of each queue, which differ only in the removal of the first item.
func checkRefill(t *testing.T, cases []refillCase) {
	t.Helper()
	for _, c := range cases {
		if !ladder.Valid(c.l) || !ladder.Valid(c.want) {
			t.Errorf("%s: Valid of the queue %t, of what is wanted %t", c.what, ladder.Valid(c.l), ladder.Valid(c.want))
		}
		var first api.Item
		rest, some := copyOf(c.want), len(c.want.Bottom) > 0
		if some {
			first, rest.Bottom = c.want.Bottom[0], c.want.Bottom[1:]
		}
		if got, it, ok := ladder.Peek(c.l); !equal(got, c.want) || it != first || ok != some {
			t.Errorf("%s: Peek(%v) = %v, %v, %t, want %v", c.what, c.l, got, it, ok, c.want)
		}
		if got, it, ok := ladder.Pop(c.l); !equal(got, rest) || it != first || ok != some {
			t.Errorf("%s: Pop(%v) = %v, %v, %t, want %v", c.what, c.l, got, it, ok, rest)
		}
	}
}

// P8.1, H3: steps 1 and 2: nothing is to be moved, or there is nothing to move.
func TestRefillNothing(t *testing.T) {
	spent := rungOf(10, 2, 8, nil)
	same := api.Ladder{TopStart: 20, Top: some(30, 25), Rungs: []api.Rung{rungOf(10, 2, 3, map[int][]api.Item{4: {at(19, 3)}})}, Bottom: []api.Item{at(15, 4)}, Moves: 8, Compares: 6}
	checkRefill(t, []refillCase{
		{"new", ladder.New(), api.Ladder{}},
		{"empty after use", api.Ladder{TopStart: 71, Moves: 9, Compares: 7}, api.Ladder{TopStart: 71, Moves: 9, Compares: 7}},
		{"Bottom only", api.Ladder{TopStart: 9, Bottom: some(3, 4, 8)}, api.Ladder{TopStart: 9, Bottom: some(3, 4, 8)}},
		{"Bottom before Top and a rung", same, same},
		{"Bottom in all places", sample(), sample()},
		{"Bottom before an empty rung", api.Ladder{TopStart: 26, Rungs: []api.Rung{spent}, Bottom: some(20)}, api.Ladder{TopStart: 26, Rungs: []api.Rung{spent}, Bottom: some(20)}},
		{"one empty rung", api.Ladder{TopStart: 26, Rungs: []api.Rung{spent}, Moves: 3, Compares: 2}, api.Ladder{TopStart: 26, Moves: 3, Compares: 2}},
		{"one empty rung, not consumed", api.Ladder{TopStart: 26, Rungs: []api.Rung{rungOf(10, 2, 0, nil)}}, api.Ladder{TopStart: 26}},
		{"empty rungs", api.Ladder{TopStart: 8, Rungs: []api.Rung{rungOf(0, 1, 4, nil), rungOf(0, 1, 4, nil), rungOf(0, 1, 3, nil), rungOf(0, 1, 2, nil)}}, api.Ladder{TopStart: 8}},
	})
}

// P8.1 and P8.2, H3: step 3: up to four items of Top become Bottom.
func TestRefillBottomFromTop(t *testing.T) {
	checkRefill(t, []refillCase{
		{"one item", api.Ladder{Top: some(5), Moves: 1, Compares: 1}, api.Ladder{TopStart: 6, Bottom: some(5), Moves: 2, Compares: 1}},
		{"least time", api.Ladder{Top: some(0)}, api.Ladder{TopStart: 1, Bottom: some(0), Moves: 1}},
		{"greatest time", api.Ladder{Top: some(lastTime)}, api.Ladder{TopStart: lastStart, Bottom: some(lastTime), Moves: 1}},
		{"two items", api.Ladder{TopStart: 4, Top: some(9, 4)}, api.Ladder{TopStart: 10, Bottom: []api.Item{at(4, 2), at(9, 1)}, Moves: 2}},
		{"four items", api.Ladder{TopStart: 2, Top: some(9, 2, 30, 4), Moves: 7, Compares: 5},
			api.Ladder{TopStart: 31, Bottom: []api.Item{at(2, 2), at(4, 4), at(9, 1), at(30, 3)}, Moves: 11, Compares: 5}},
		{"four items at one time", api.Ladder{Top: []api.Item{at(7, 4), at(7, 2), at(7, 3), at(7, 1)}},
			api.Ladder{TopStart: 8, Bottom: some(7, 7, 7, 7), Moves: 4}},
		{"after an empty rung", api.Ladder{TopStart: 8, Top: some(9, 8), Rungs: []api.Rung{rungOf(0, 1, 8, nil)}},
			api.Ladder{TopStart: 10, Bottom: []api.Item{at(8, 2), at(9, 1)}, Moves: 2}},
	})
}

// P8.1 and P8.2, H3: step 3 with more items, which become a rung, and step 4 with its first bucket.
func TestRefillRungFromTop(t *testing.T) {
	equalTimes := []api.Item{at(7, 4), at(7, 2), at(7, 5), at(7, 3), at(7, 1)}
	checkRefill(t, []refillCase{
		{"five items", api.Ladder{TopStart: 2, Top: some(9, 2, 30, 4, 2), Moves: 7, Compares: 5},
			api.Ladder{
				TopStart: 31,
				Rungs:    []api.Rung{rungOf(2, 4, 1, map[int][]api.Item{1: {at(9, 1)}, 7: {at(30, 3)}})},
				Bottom:   []api.Item{at(2, 2), at(2, 5), at(4, 4)},
				Moves:    7 + 5 + 3, Compares: 5,
			}},
		{"order of Top in a bucket", api.Ladder{Top: some(0, 79, 72, 75, 73)},
			api.Ladder{
				TopStart: 80,
				Rungs:    []api.Rung{rungOf(0, 10, 1, map[int][]api.Item{7: {at(79, 2), at(72, 3), at(75, 4), at(73, 5)}})},
				Bottom:   some(0),
				Moves:    6,
			}},
		{"End is one after the maximum", api.Ladder{Top: some(7, 6, 5, 1, 0)},
			api.Ladder{
				TopStart: 8,
				Rungs:    []api.Rung{rungOf(0, 1, 1, map[int][]api.Item{1: {at(1, 4)}, 5: {at(5, 3)}, 6: {at(6, 2)}, 7: {at(7, 1)}})},
				Bottom:   []api.Item{at(0, 5)},
				Moves:    6,
			}},
		{"five items at one time", api.Ladder{Top: equalTimes},
			api.Ladder{TopStart: 8, Rungs: []api.Rung{rungOf(7, 1, 1, nil)}, Bottom: some(7, 7, 7, 7, 7), Moves: 10}},
		{"all times", api.Ladder{Top: some(lastTime, 0, 1, 2, lastWidth)},
			api.Ladder{
				TopStart: lastStart,
				Rungs:    []api.Rung{rungOf(0, lastWidth, 1, map[int][]api.Item{1: {at(lastWidth, 5)}, 7: {at(lastTime, 1)}})},
				Bottom:   []api.Item{at(0, 2), at(1, 3), at(2, 4)},
				Moves:    8,
			}},
		{"greatest times", api.Ladder{TopStart: lastTime, Top: some(lastTime, lastTime, lastTime, lastTime, lastTime)},
			api.Ladder{TopStart: lastStart, Rungs: []api.Rung{rungOf(lastTime, 1, 1, nil)}, Bottom: some(lastTime, lastTime, lastTime, lastTime, lastTime), Moves: 10}},
		{"after empty rungs", api.Ladder{TopStart: 8, Top: some(10, 9, 11, 12, 13), Rungs: []api.Rung{rungOf(0, 1, 8, nil), rungOf(0, 1, 8, nil)}},
			api.Ladder{
				TopStart: 14,
				Rungs:    []api.Rung{rungOf(9, 1, 1, map[int][]api.Item{1: {at(10, 1)}, 2: {at(11, 3)}, 3: {at(12, 4)}, 4: {at(13, 5)}})},
				Bottom:   []api.Item{at(9, 2)},
				Moves:    6,
			}},
	})
}

// P8.1 and P8.2, H3: step 4: the first items of the last rung become Bottom.
func TestRefillBottomFromRung(t *testing.T) {
	two := func(first []api.Item, cur int) []api.Rung {
		return []api.Rung{
			rungOf(100, 20, 3, map[int][]api.Item{4: {at(185, 20)}}),
			rungOf(140, 3, cur, map[int][]api.Item{2: first, 5: {at(157, 21)}}),
		}
	}
	checkRefill(t, []refillCase{
		{"one item", api.Ladder{TopStart: 260, Top: some(300), Rungs: two([]api.Item{at(147, 30)}, 1), Moves: 5, Compares: 4},
			api.Ladder{TopStart: 260, Top: some(300), Rungs: two(nil, 3), Bottom: []api.Item{at(147, 30)}, Moves: 6, Compares: 4}},
		{"four items", api.Ladder{TopStart: 260, Rungs: two(some(148, 146, 147, 146), 0)},
			api.Ladder{TopStart: 260, Rungs: two(nil, 3), Bottom: []api.Item{at(146, 2), at(146, 4), at(147, 3), at(148, 1)}, Moves: 4}},
		{"last bucket", api.Ladder{TopStart: 180, Rungs: []api.Rung{rungOf(100, 10, 0, map[int][]api.Item{7: some(179, 170)})}},
			api.Ladder{TopStart: 180, Rungs: []api.Rung{rungOf(100, 10, 8, nil)}, Bottom: []api.Item{at(170, 2), at(179, 1)}, Moves: 2}},
		{"after an empty last rung", api.Ladder{TopStart: 180, Rungs: []api.Rung{rungOf(100, 10, 1, map[int][]api.Item{3: some(135)}), rungOf(100, 2, 5, nil)}},
			api.Ladder{TopStart: 180, Rungs: []api.Rung{rungOf(100, 10, 4, nil)}, Bottom: some(135), Moves: 1}},
		{"five items, Width 1", api.Ladder{TopStart: 8, Rungs: []api.Rung{rungOf(0, 1, 2, map[int][]api.Item{3: {at(3, 4), at(3, 2), at(3, 5), at(3, 3), at(3, 1)}})}},
			api.Ladder{TopStart: 8, Rungs: []api.Rung{rungOf(0, 1, 4, nil)}, Bottom: some(3, 3, 3, 3, 3), Moves: 5}},
	})
}

// four returns a queue whose fourth rung is of the given width, with the items in its third bucket.
func four(width int, cur int, list []api.Item) api.Ladder {
	return api.Ladder{
		TopStart: 80000,
		Rungs: []api.Rung{
			rungOf(0, 10000, 1, map[int][]api.Item{6: {at(60000, 20)}}),
			rungOf(0, 1250, 1, nil),
			rungOf(0, 157, 1, nil),
			rungOf(0, width, cur, map[int][]api.Item{2: list}),
		},
	}
}

// P8.1 and P8.2, H3: step 4: with four rungs any number of items becomes Bottom; with fewer rungs five items become another rung.
func TestRefillLimitOfRungs(t *testing.T) {
	list := some(58, 40, 41, 59, 42, 40)
	sorted := []api.Item{at(40, 2), at(40, 6), at(41, 3), at(42, 5), at(58, 1), at(59, 4)}
	full, filled := four(20, 1, list), four(20, 3, nil)
	filled.Bottom, filled.Moves = sorted, 6
	checkRefill(t, []refillCase{{"four rungs", full, filled}})

	three, split := four(20, 1, list), four(20, 3, nil)
	three.TopStart, split.TopStart = 10000, 10000
	three.Rungs = three.Rungs[1:]
	split.Rungs = append(split.Rungs[1:], rungOf(40, 3, 1, map[int][]api.Item{6: {at(58, 1), at(59, 4)}}))
	split.Bottom, split.Moves = sorted[:4], 6+4
	checkRefill(t, []refillCase{{"three rungs", three, split}})

	last, after := four(20, 8, nil), four(20, 3, nil)
	last.Rungs, after.Rungs = last.Rungs[:1], after.Rungs[:1]
	after.Rungs[0] = rungOf(0, 10000, 7, nil)
	after.Bottom, after.Moves = []api.Item{at(60000, 20)}, 1
	checkRefill(t, []refillCase{{"one rung", last, after}})
}

// P8.1 and P8.2, H3: step 4: five items of a bucket become a rung of an eighth of its width, rounded up.
func TestRefillRungFromRung(t *testing.T) {
	checkRefill(t, []refillCase{
		{"width 10", api.Ladder{TopStart: 80, Top: some(90), Rungs: []api.Rung{rungOf(0, 10, 1, map[int][]api.Item{
			4: {at(47, 9), at(40, 8), at(46, 7), at(41, 6), at(49, 5)}, 5: {at(50, 4)}})}, Moves: 20, Compares: 9},
			api.Ladder{
				TopStart: 80,
				Top:      some(90),
				Rungs: []api.Rung{
					rungOf(0, 10, 5, map[int][]api.Item{5: {at(50, 4)}}),
					rungOf(40, 2, 1, map[int][]api.Item{3: {at(47, 9), at(46, 7)}, 4: {at(49, 5)}}),
				},
				Bottom: []api.Item{at(40, 8), at(41, 6)},
				Moves:  20 + 5 + 2, Compares: 9,
			}},
		{"width 2 becomes 1", api.Ladder{TopStart: 16, Rungs: []api.Rung{rungOf(0, 2, 0, map[int][]api.Item{1: some(3, 2, 3, 2, 3)})}},
			api.Ladder{
				TopStart: 16,
				Rungs:    []api.Rung{rungOf(0, 2, 2, nil), rungOf(2, 1, 1, map[int][]api.Item{1: {at(3, 1), at(3, 3), at(3, 5)}})},
				Bottom:   []api.Item{at(2, 2), at(2, 4)},
				Moves:    7,
			}},
		{"one time, width 8", api.Ladder{TopStart: 64, Rungs: []api.Rung{rungOf(0, 8, 0, map[int][]api.Item{0: some(5, 5, 5, 5, 5)})}},
			api.Ladder{
				TopStart: 64,
				Rungs:    []api.Rung{rungOf(0, 8, 1, nil), rungOf(0, 1, 6, nil)},
				Bottom:   some(5, 5, 5, 5, 5),
				Moves:    10,
			}},
		{"one time, from one rung to four", api.Ladder{TopStart: 8000, Rungs: []api.Rung{rungOf(0, 1000, 0, map[int][]api.Item{0: some(777, 777, 777, 777, 777)})}},
			api.Ladder{
				TopStart: 8000,
				Rungs:    []api.Rung{rungOf(0, 1000, 1, nil), rungOf(0, 125, 7, nil), rungOf(750, 16, 2, nil), rungOf(766, 2, 6, nil)},
				Bottom:   some(777, 777, 777, 777, 777),
				Moves:    20,
			}},
		{"widest", api.Ladder{TopStart: lastStart, Rungs: []api.Rung{rungOf(0, lastWidth, 0, map[int][]api.Item{7: some(lastTime, lastTime-1, lastTime-1, lastTime, lastTime)})}},
			api.Ladder{
				TopStart: lastStart,
				Rungs: []api.Rung{
					rungOf(0, lastWidth, 8, nil),
					rungOf(1008806316530991111, 18014398509481985, 8, nil),
					rungOf(1134907106097365006, 2251799813685249, 8, nil),
					rungOf(1150669704793161749, 281474976710657, 8, nil),
				},
				Bottom: []api.Item{at(lastTime-1, 2), at(lastTime-1, 3), at(lastTime, 1), at(lastTime, 4), at(lastTime, 5)},
				Moves:  20,
			}},
	})
}

// P8.1, H3: a second Peek returns what the first one did, and Pop of the queue of Peek what Pop of the queue does.
func TestPeekChangesNoLaterResult(t *testing.T) {
	queues := []api.Ladder{ladder.New(), sample(), {Top: some(5, 3, 9)}, {Top: some(100, 90, 80, 70, 60, 50)}, four(20, 1, some(58, 40, 41, 59, 42, 40))}
	for _, l := range queues {
		for {
			seen, it, ok := ladder.Peek(l)
			again, same, still := ladder.Peek(seen)
			if !equal(seen, again) || it != same || ok != still || ladder.Len(seen) != ladder.Len(l) {
				t.Errorf("Peek(%v) = %v, %v, %t, and again %v, %v, %t", l, seen, it, ok, again, same, still)
			}
			a, p, okA := ladder.Pop(l)
			b, q, okB := ladder.Pop(seen)
			if !equal(a, b) || p != q || okA != okB || p != it || okA != ok {
				t.Errorf("Pop(%v) = %v, %v, %t, but after Peek %v, %v, %t", l, a, p, okA, b, q, okB)
			}
			if !ok {
				break
			}
			l = a
		}
	}
}
