package workload_test

import (
	"cmp"
	"slices"
	"testing"

	"ropeladder/api"
	"ropeladder/ladder"
	"ropeladder/workload"
)

// byLadder executes a workload as I1 words it: all queues that the operations lead to are measured, and the greatest measures are looked for at the end.
func byLadder(ops []api.WorkOp) ([]api.Item, api.Metrics) {
	var items []api.Item
	depths, lengths := []int{0}, []int{0}
	inserts := 0
	l := ladder.New()
	for i, op := range ops {
		if op.Pop {
			rest, it, ok := ladder.Pop(l)
			if ok {
				items = append(items, it)
			}
			l = rest
		} else {
			inserts++
			l = ladder.Insert(l, api.Item{Time: op.Time, Seq: i, Slot: 0})
		}
		depths, lengths = append(depths, len(l.Rungs)), append(lengths, ladder.Len(l))
	}
	return items, api.Metrics{
		Inserts: inserts, Pops: len(items),
		Moves: l.Moves, Compares: l.Compares,
		MaxDepth: slices.Max(depths), MaxLen: slices.Max(lengths),
	}
}

func inOrder(a api.Item, b api.Item) int {
	return cmp.Or(cmp.Compare(a.Time, b.Time), cmp.Compare(a.Seq, b.Seq))
}

// bySearch executes a workload on a list without any order: each removal searches all of it. It also returns the items that remain, and the greatest length of the list.
func bySearch(ops []api.WorkOp) (items []api.Item, rest []api.Item, greatest int) {
	for i, op := range ops {
		switch {
		case !op.Pop:
			rest = append(rest, item(op.Time, i))
			greatest = max(greatest, len(rest))
		case len(rest) > 0:
			first := slices.MinFunc(rest, inOrder)
			items = append(items, first)
			rest = slices.DeleteFunc(rest, func(it api.Item) bool { return it == first })
		}
	}
	return items, rest, greatest
}

// check compares the results of a workload with its definition (P9.1), with one another (P9.3) and with the bounds of the cost (P9.2). It returns the metrics.
func check(t *testing.T, ops []api.WorkOp) api.Metrics {
	t.Helper()
	items, got := workload.Run(ops)
	wantItems, want := byLadder(ops)
	if !slices.Equal(items, wantItems) || got != want {
		t.Fatalf("Run(%v) = %v, %+v, want %v, %+v", ops, items, got, wantItems, want)
	}
	if sorted := workload.Sorted(ops); !slices.Equal(sorted, items) {
		t.Fatalf("Sorted(%v) = %v, Run returns %v", ops, sorted, items)
	}
	plain, rest, greatest := bySearch(ops)
	if !slices.Equal(items, plain) || got.Pops != len(plain) || got.Inserts != len(plain)+len(rest) || got.MaxLen != greatest {
		t.Fatalf("Run(%v) = %v, %+v, want %v, MaxLen %d", ops, items, got, plain, greatest)
	}
	if got.Moves > workload.MoveBound(got.Inserts) || got.Moves > 6*got.Inserts {
		t.Fatalf("Run(%v): %d moves of %d items", ops, got.Moves, got.Inserts)
	}
	if got.Compares > workload.CompareBound(got.Inserts) || got.Compares > 5*got.Inserts {
		t.Fatalf("Run(%v): %d comparisons for %d items", ops, got.Compares, got.Inserts)
	}
	if got.MaxDepth > 4 {
		t.Fatalf("Run(%v): %d rungs", ops, got.MaxDepth)
	}
	return got
}

// drain checks a workload that is extended by as many removals as items remain (P9.4).
func drain(t *testing.T, ops []api.WorkOp) api.Metrics {
	t.Helper()
	_, rest, _ := bySearch(ops)
	all := after(ops, out(len(rest)))
	metrics := check(t, all)
	items, _ := workload.Run(all)
	if last := items[len(items)-len(rest):]; !slices.IsSortedFunc(last, inOrder) {
		t.Fatalf("Run(%v): the last removals return %v", all, last)
	}
	var inserted []api.Item
	for i, op := range ops {
		if !op.Pop {
			inserted = append(inserted, item(op.Time, i))
		}
	}
	// Operations are numbered in their order, so that each inserted item must turn up at its place, once.
	byNumber := slices.SortedFunc(slices.Values(items), func(a api.Item, b api.Item) int { return cmp.Compare(a.Seq, b.Seq) })
	if !slices.Equal(byNumber, inserted) {
		t.Fatalf("Run(%v) = %v, inserted were %v", all, items, inserted)
	}
	return metrics
}

// extend checks all workloads that begin with the given one and go on with at most that many operations at the given times.
func extend(t *testing.T, ops []api.WorkOp, times []int, more int) {
	t.Helper()
	drain(t, ops)
	check(t, ops)
	if more == 0 {
		return
	}
	extend(t, after(ops, out(1)), times, more-1)
	for _, time := range times {
		extend(t, after(ops, in(time)), times, more-1)
	}
}

// P9.1 to P9.4: all short workloads, and all short ends of workloads with one rung and with four.
func TestShortWorkloads(t *testing.T) {
	extend(t, nil, []int{0, 1, 5}, 6)
	extend(t, nil, []int{0, lastTime}, 8)
	extend(t, in(40, 0, 3, 1, 2), []int{0, 2, 39, 41}, 4)
	extend(t, after(in(40, 0, 3, 1, 2), out(1)), []int{0, 2, 39, 41}, 4)
	extend(t, after(in(lastTime, 7, 7, 7, 7, 7), out(1)), []int{0, 8, 1 << 50, 1 << 57, lastTime}, 4)
}

// dice is a generator of numbers that are the same in every run.
type dice uint64

// bits returns 31 bits: the upper ones, as the lower ones repeat soon.
func (d *dice) bits() int {
	*d = *d*6364136223846793005 + 1442695040888963407
	return int(uint64(*d) >> 33)
}

// below returns a number less than n.
func (d *dice) below(n int) int { return (d.bits()<<31 | d.bits()) % n }

// workload returns n operations. Of 10 operations, as many as given are removals; times are at most the given one, and most lie behind that of the last insertion.
func (d *dice) workload(n int, last int, removals int) []api.WorkOp {
	var ops []api.WorkOp
	now := 0
	for range n {
		if d.below(10) < removals {
			ops = append(ops, out(1)...)
			continue
		}
		switch d.below(6) {
		case 0:
			now = d.below(last + 1)
		case 1:
			now = max(0, now-d.below(20))
		case 2, 3:
			now += min(last-now, d.below(20))
		case 4:
			now += min(last-now, d.below(1+last/50))
		}
		ops = append(ops, in(now)...)
	}
	return ops
}

// P9.1 to P9.4: long workloads, with times over short and long ranges, which grow, keep their length or are empty most of the time.
func TestLongWorkloads(t *testing.T) {
	d := dice(1)
	deepest, mostCompared := 0, 0
	for _, last := range []int{0, 1, 7, 40, 1000, 100000, 1 << 31, lastTime} {
		for removals := range 10 {
			for _, n := range []int{10, 20, 30, 100, 300} {
				m := drain(t, d.workload(n, last, removals))
				deepest = max(deepest, m.MaxDepth)
				mostCompared = max(mostCompared, m.Compares-2*m.Inserts)
			}
		}
	}
	if deepest != 4 || mostCompared <= 0 {
		t.Errorf("no workload has four rungs, or none has more than two comparisons an item: %d, %d", deepest, mostCompared)
	}
}

// P9.1 to P9.4: workloads of 2000 operations.
func TestLongestWorkloads(t *testing.T) {
	d := dice(2)
	half := longest / 2
	for _, last := range []int{0, 100, 1 << 20, lastTime} {
		check(t, d.workload(longest, last, 5))
		drain(t, d.workload(half, last, 0))
	}
	check(t, after(d.workload(half, lastTime, 3), out(half)))
	for what, ops := range map[string][]api.WorkOp{
		"insertions": d.workload(longest, lastTime, 0),
		"removals":   out(longest),
		"pairs":      slices.Repeat(after(in(5), out(1)), half),
	} {
		if m := check(t, ops); len(ops) != longest || m.Moves > 4*longest {
			t.Errorf("%s: %d operations, %+v", what, len(ops), m)
		}
	}
}

// P9.1 and P9.3: 1000 items that come in the reverse order, or all at one time, and go in order.
func TestThousandItems(t *testing.T) {
	half := longest / 2
	var down, same []int
	var downItems, sameItems []api.Item
	for i := range half {
		down, same = append(down, (half-i)*3), append(same, 77)
		downItems, sameItems = append(downItems, item(i*3+3, half-1-i)), append(sameItems, item(77, i))
	}
	// One time has one bucket, whose items are all sorted at once: an item moves into Top, a rung and Bottom.
	want := api.Metrics{Inserts: half, Pops: half, Moves: 3 * half, Compares: half, MaxDepth: 1, MaxLen: half}
	verify(t, []example{{"one time", after(in(same...), out(half)), sameItems, want}})
	ops := after(in(down...), out(half))
	check(t, ops)
	if items, _ := workload.Run(ops); !slices.Equal(items, downItems) {
		t.Errorf("Run = %v, want %v", items, downItems)
	}
}

// P9.2: groups of items at one time, which go through all four rungs, and items before them that are compared with all: both costs come near their bounds, but no further.
func TestGreatestCosts(t *testing.T) {
	crowd := in(slices.Repeat([]int{7}, 900)...)
	m := drain(t, after(in(lastTime), crowd))
	// All but one of the items move six times.
	if want := (api.Metrics{Inserts: 901, Pops: 901, Moves: 6*900 + 3, Compares: 901, MaxDepth: 4, MaxLen: 901}); m != want {
		t.Errorf("items at one time: %+v, want %+v", m, want)
	}
	early := slices.Repeat(after(in(3), out(1)), 900)
	m = check(t, after(in(lastTime, 7, 7, 7, 7, 7), out(1), early))
	// All but the first six items are compared five times.
	if want := (api.Metrics{Inserts: 906, Pops: 901, Moves: 32 + 900, Compares: 6 + 5*900, MaxDepth: 4, MaxLen: 6}); m != want {
		t.Errorf("early items: %+v, want %+v", m, want)
	}
}
