package workload_test

import (
	"math"
	"slices"
	"testing"

	"ropeladder/api"
	"ropeladder/workload"
)

// The bounds of the chapter, as numbers of its own.
const (
	lastTime = 1152921504606846976 // 2^60
	longest  = 2000
)

// in returns insertions at the given times.
func in(times ...int) []api.WorkOp {
	var ops []api.WorkOp
	for _, time := range times {
		ops = append(ops, api.WorkOp{Time: time})
	}
	return ops
}

// out returns n removals.
func out(n int) []api.WorkOp { return slices.Repeat([]api.WorkOp{{Pop: true}}, n) }

// after returns a workload of the given parts, one after the other.
func after(parts ...[]api.WorkOp) []api.WorkOp { return slices.Concat(parts...) }

// item returns the item that the operation with that index inserts.
func item(time int, index int) api.Item { return api.Item{Time: time, Seq: index, Slot: 0} }

// example is a workload, with its results worked out by hand.
type example struct {
	what  string
	ops   []api.WorkOp
	items []api.Item
	want  api.Metrics
}

// verify compares the results of an example with those of Run and of Sorted.
func verify(t *testing.T, examples []example) {
	t.Helper()
	for _, e := range examples {
		items, got := workload.Run(e.ops)
		if !slices.Equal(items, e.items) || got != e.want {
			t.Errorf("%s: Run = %v, %+v, want %v, %+v", e.what, items, got, e.items, e.want)
		}
		if sorted := workload.Sorted(e.ops); !slices.Equal(sorted, e.items) {
			t.Errorf("%s: Sorted = %v, want %v", e.what, sorted, e.items)
		}
	}
}

// P9.1 and P9.3, I1 and I3: the example of the chapter, and the fifth one of DOC.md.
func TestExamples(t *testing.T) {
	verify(t, []example{
		{"the chapter's", after(in(5, 3), out(1)), []api.Item{item(3, 1)},
			api.Metrics{Inserts: 2, Pops: 1, Moves: 4, Compares: 2, MaxDepth: 0, MaxLen: 2}},
		{"the document's", after(in(100, 90, 80, 70, 60, 50), out(1)), []api.Item{item(50, 5)},
			api.Metrics{Inserts: 6, Pops: 1, Moves: 13, Compares: 6, MaxDepth: 1, MaxLen: 6}},
	})
}

// P9.1 and P9.3, I1 and I3: no operations, operations of one kind, and removals of an empty queue.
func TestEmptyQueues(t *testing.T) {
	verify(t, []example{
		{"no operation", nil, nil, api.Metrics{}},
		{"an empty list of operations", []api.WorkOp{}, nil, api.Metrics{}},
		{"one removal", out(1), nil, api.Metrics{}},
		{"only removals", out(7), nil, api.Metrics{}},
		{"one insertion", in(4), nil, api.Metrics{Inserts: 1, Moves: 1, Compares: 1, MaxLen: 1}},
		{"only insertions", in(7, 7, 2), nil, api.Metrics{Inserts: 3, Moves: 3, Compares: 3, MaxLen: 3}},
		{"only insertions, more than are sorted", in(5, 4, 3, 2, 1, 0), nil,
			api.Metrics{Inserts: 6, Moves: 6, Compares: 6, MaxLen: 6}},
		{"removals before", after(out(2), in(4), out(1)), []api.Item{item(4, 2)},
			api.Metrics{Inserts: 1, Pops: 1, Moves: 2, Compares: 1, MaxLen: 1}},
		{"removals between", after(in(4), out(3), in(6), out(1)), []api.Item{item(4, 0), item(6, 4)},
			api.Metrics{Inserts: 2, Pops: 2, Moves: 4, Compares: 2, MaxLen: 1}},
		{"removals behind", after(in(4), out(3)), []api.Item{item(4, 0)},
			api.Metrics{Inserts: 1, Pops: 1, Moves: 2, Compares: 1, MaxLen: 1}},
		{"removals before, between and behind", after(out(1), in(8), out(2), in(3), out(2)), []api.Item{item(8, 1), item(3, 4)},
			api.Metrics{Inserts: 2, Pops: 2, Moves: 3, Compares: 2, MaxLen: 1}},
	})
}

// P9.1 and P9.3, I1 and I3: equal times, and the least and the greatest time.
func TestTimes(t *testing.T) {
	const last = lastTime
	verify(t, []example{
		{"one time, few items", after(in(9, 9, 9), out(3)), []api.Item{item(9, 0), item(9, 1), item(9, 2)},
			api.Metrics{Inserts: 3, Pops: 3, Moves: 6, Compares: 3, MaxDepth: 0, MaxLen: 3}},
		{"one time, many items", after(in(9, 9, 9, 9, 9, 9), out(6)),
			[]api.Item{item(9, 0), item(9, 1), item(9, 2), item(9, 3), item(9, 4), item(9, 5)},
			api.Metrics{Inserts: 6, Pops: 6, Moves: 18, Compares: 6, MaxDepth: 1, MaxLen: 6}},
		{"least time", after(in(0, 0), out(2)), []api.Item{item(0, 0), item(0, 1)},
			api.Metrics{Inserts: 2, Pops: 2, Moves: 4, Compares: 2, MaxDepth: 0, MaxLen: 2}},
		{"greatest time", after(in(last), out(1), in(last), out(1)), []api.Item{item(last, 0), item(last, 2)},
			api.Metrics{Inserts: 2, Pops: 2, Moves: 3, Compares: 2, MaxDepth: 0, MaxLen: 1}},
		{"both", after(in(last, 0), out(2)), []api.Item{item(0, 1), item(last, 0)},
			api.Metrics{Inserts: 2, Pops: 2, Moves: 4, Compares: 2, MaxDepth: 0, MaxLen: 2}},
		{"both, in a rung", after(in(last, 0, last, 0, 0, last), out(6)),
			[]api.Item{item(0, 1), item(0, 3), item(0, 4), item(last, 0), item(last, 2), item(last, 5)},
			api.Metrics{Inserts: 6, Pops: 6, Moves: 18, Compares: 6, MaxDepth: 1, MaxLen: 6}},
	})
}

// P9.1, I1: each metric differs from one workload to the next while most others stay; the two maxima are reached before the end.
func TestMetrics(t *testing.T) {
	deep := in(lastTime, 7, 7, 7, 7, 7)
	sevens := []api.Item{item(7, 1), item(7, 2), item(7, 3), item(7, 4), item(7, 5)}
	tens := in(0, 10, 20, 30, 40)
	tenItems := []api.Item{item(0, 0), item(10, 1), item(20, 2), item(30, 3), item(40, 4)}
	verify(t, []example{
		{"four rungs", after(deep, out(1)), sevens[:1],
			api.Metrics{Inserts: 6, Pops: 1, Moves: 32, Compares: 6, MaxDepth: 4, MaxLen: 6}},
		{"four rungs, one left", after(deep, out(6)), append(slices.Clone(sevens), item(lastTime, 0)),
			api.Metrics{Inserts: 6, Pops: 6, Moves: 33, Compares: 6, MaxDepth: 4, MaxLen: 6}},
		{"four rungs, none left", after(deep, out(8)), append(slices.Clone(sevens), item(lastTime, 0)),
			api.Metrics{Inserts: 6, Pops: 6, Moves: 33, Compares: 6, MaxDepth: 4, MaxLen: 6}},
		{"before four rungs", after(deep, out(1), in(3), out(1)), []api.Item{item(7, 1), item(3, 7)},
			api.Metrics{Inserts: 7, Pops: 2, Moves: 33, Compares: 11, MaxDepth: 4, MaxLen: 6}},
		{"before one rung", after(tens, out(5), in(39)), tenItems,
			api.Metrics{Inserts: 6, Pops: 5, Moves: 16, Compares: 7, MaxDepth: 1, MaxLen: 5}},
		{"a removal of nothing removes the rung", after(tens, out(6), in(39)), tenItems,
			api.Metrics{Inserts: 6, Pops: 5, Moves: 16, Compares: 6, MaxDepth: 1, MaxLen: 5}},
		{"longest in the middle", after(in(1, 2, 3), out(2), in(4), out(2)), []api.Item{item(1, 0), item(2, 1), item(3, 2), item(4, 5)},
			api.Metrics{Inserts: 4, Pops: 4, Moves: 8, Compares: 4, MaxDepth: 0, MaxLen: 3}},
		{"never longer than one", after(in(1), out(1), in(2), out(1), in(3), out(1)), []api.Item{item(1, 0), item(2, 2), item(3, 4)},
			api.Metrics{Inserts: 3, Pops: 3, Moves: 6, Compares: 3, MaxDepth: 0, MaxLen: 1}},
		{"longest at the end", after(in(1), out(1), in(2, 3)), []api.Item{item(1, 0)},
			api.Metrics{Inserts: 3, Pops: 1, Moves: 4, Compares: 3, MaxDepth: 0, MaxLen: 2}},
	})
}

// P9.1, I1 and I3: the number of an item is the index of its operation, and removals count, those of an empty queue, too.
func TestNumbers(t *testing.T) {
	ops := after(out(3), in(5), out(1), in(5, 5), out(4), in(5, 1), out(2))
	want := []api.Item{item(5, 3), item(5, 5), item(5, 6), item(1, 12), item(5, 11)}
	if items, _ := workload.Run(ops); !slices.Equal(items, want) {
		t.Errorf("Run = %v, want %v", items, want)
	}
	if items := workload.Sorted(ops); !slices.Equal(items, want) {
		t.Errorf("Sorted = %v, want %v", items, want)
	}
}

// P9.1, I1 and I3: the Time of a removal changes nothing, whatever it is.
func TestTimesOfRemovalsAreIgnored(t *testing.T) {
	workloads := [][]api.WorkOp{
		out(3),
		after(in(5, 3), out(1), in(0, 4), out(4)),
		after(in(lastTime, 7, 7, 7, 7, 7), out(2), in(3), out(9)),
		after(in(0, 10, 20, 30, 40), out(6), in(39), out(1)),
	}
	for _, plain := range workloads {
		items, metrics := workload.Run(plain)
		for _, time := range append(extremes(), 3, 7, 39, lastTime/2) {
			ops := slices.Clone(plain)
			for i := range ops {
				if ops[i].Pop {
					ops[i].Time = time
				}
			}
			got, m := workload.Run(ops)
			if !slices.Equal(got, items) || m != metrics {
				t.Errorf("Run(%v) = %v, %+v, want %v, %+v", ops, got, m, items, metrics)
			}
			if sorted := workload.Sorted(ops); !slices.Equal(sorted, items) {
				t.Errorf("Sorted(%v) = %v, want %v", ops, sorted, items)
			}
		}
	}
}

// P9.1, I2: both bounds are multiples of the argument.
func TestBounds(t *testing.T) {
	cases := []struct{ inserts, moves, compares int }{
		{0, 0, 0},
		{1, 6, 5},
		{2, 12, 10},
		{3, 18, 15},
		{7, 42, 35},
		{1999, 11994, 9995},
		{longest, 12000, 10000},
		{1 << 31, 6 << 31, 5 << 31},
		{lastTime, 6 * lastTime, 5 * lastTime},
		{math.MaxInt / 6, math.MaxInt - 1, 7686143364045646505},
		{-1, -6, -5},
		{-lastTime, -6 * lastTime, -5 * lastTime},
	}
	for _, c := range cases {
		if moves, compares := workload.MoveBound(c.inserts), workload.CompareBound(c.inserts); moves != c.moves || compares != c.compares {
			t.Errorf("%d insertions: bounds %d and %d, want %d and %d", c.inserts, moves, compares, c.moves, c.compares)
		}
	}
}
