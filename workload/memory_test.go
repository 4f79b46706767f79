package workload_test

import (
	"math"
	"slices"
	"testing"

	"ropeladder/api"
	"ropeladder/workload"
)

// extremes returns times at the ends of the ranges of times and of integers, and next to them.
func extremes() []int {
	return []int{0, 1, lastTime, -1, lastTime - 1, lastTime + 1, 2 * lastTime, 4 * lastTime, -lastTime,
		math.MinInt, math.MinInt + 1, math.MaxInt - 1, math.MaxInt}
}

// samples returns workloads that use all parts of a queue.
func samples() [][]api.WorkOp {
	d := dice(3)
	return [][]api.WorkOp{
		in(5),
		after(in(5, 3), out(1)),
		after(out(1), in(9, 4, 1), out(2), in(2), out(4)),
		after(in(lastTime, 7, 7, 7, 7, 7), out(2), in(3), out(3), in(8), out(9)),
		d.workload(200, 1000, 4),
	}
}

// scribble overwrites all the memory that a list of items can reach.
func scribble(list []api.Item) {
	list = list[:cap(list)]
	for i := range list {
		list[i] = api.Item{Time: -888, Seq: -888, Slot: -888}
	}
}

// Rules: the workload that was passed in is unchanged, and so is the memory behind it.
func TestWorkloadsAreUnchanged(t *testing.T) {
	for _, ops := range samples() {
		room := append(slices.Clone(ops), in(-777, -777, -777)...)
		before := slices.Clone(room)
		given := room[:len(ops)]
		workload.Run(given)
		workload.Sorted(given)
		if !slices.Equal(room, before) {
			t.Errorf("workload %v is changed to %v", before, room)
		}
	}
}

// Rules: the results share no memory with the workload or with one another, and no later call changes them.
func TestResultsShareNoMemory(t *testing.T) {
	calls := map[string]func([]api.WorkOp) []api.Item{
		"Run":    func(ops []api.WorkOp) []api.Item { items, _ := workload.Run(ops); return items },
		"Sorted": workload.Sorted,
	}
	for _, ops := range samples() {
		want, _, _ := bySearch(ops)
		for name, call := range calls {
			given := slices.Clone(ops)
			kept := call(given)
			for _, other := range calls {
				again := other(given)
				scribble(again)
				_ = append(again, api.Item{Time: -999})
			}
			if !slices.Equal(kept, want) || !slices.Equal(given, ops) {
				t.Errorf("%s(%v): a change of another result leads to %v, of workload %v", name, ops, kept, given)
			}
			for i := range given {
				given[i] = api.WorkOp{Pop: !given[i].Pop, Time: -888}
			}
			call(given)
			if !slices.Equal(kept, want) {
				t.Errorf("%s(%v): a change of the workload leads to %v", name, ops, kept)
			}
			if again := call(ops); !slices.Equal(again, want) {
				t.Errorf("%s(%v) = %v after other calls", name, ops, again)
			}
		}
	}
}

// P2: equal workloads have equal results, whatever was executed before, and a nil workload is an empty one.
func TestSameWorkloadsSameResults(t *testing.T) {
	workloads := append(samples(), nil, []api.WorkOp{})
	for range 3 {
		for _, ops := range workloads {
			items, metrics := workload.Run(ops)
			for _, before := range workloads {
				workload.Run(before)
				workload.Sorted(before)
				again, m := workload.Run(slices.Clone(ops))
				if !slices.Equal(again, items) || m != metrics || !slices.Equal(workload.Sorted(slices.Clone(ops)), items) {
					t.Errorf("Run(%v) = %v, %+v and %v, %+v", ops, items, metrics, again, m)
				}
			}
		}
	}
}

// call executes a workload that need not be valid, and only expects that the functions return.
func call(t *testing.T, ops []api.WorkOp) {
	t.Helper()
	defer func() {
		if fault := recover(); fault != nil {
			t.Fatalf("workload %v: panic: %v", ops, fault)
		}
	}()
	workload.Run(ops)
	workload.Sorted(ops)
}

// callAll executes all workloads that begin with the given one and go on with that many operations at the given times.
func callAll(t *testing.T, ops []api.WorkOp, times []int, more int) {
	t.Helper()
	if more == 0 {
		call(t, ops)
		return
	}
	callAll(t, after(ops, out(1)), times, more-1)
	for _, time := range times {
		callAll(t, after(ops, in(time)), times, more-1)
	}
}

// P1: every function returns for all times.
func TestExtremeTimes(t *testing.T) {
	callAll(t, nil, extremes(), 4)
	// Six insertions and one removal make rungs of any width and start.
	for _, a := range extremes() {
		for _, b := range extremes() {
			for _, c := range extremes() {
				call(t, after(in(a, b, c, a, a, a, a, a), out(1), in(c, b, a), out(2), in(b, c), out(12)))
			}
		}
	}
	d := dice(4)
	for range 200 {
		var ops []api.WorkOp
		for range 100 {
			if d.below(3) == 0 {
				ops = append(ops, api.WorkOp{Pop: true, Time: extremes()[d.below(13)]})
				continue
			}
			ops = append(ops, in(extremes()[d.below(13)]+d.below(5)-2)...)
		}
		call(t, ops)
	}
}

// P1: every function returns for more operations than a workload has.
func TestTooManyOperations(t *testing.T) {
	d := dice(5)
	for _, n := range []int{longest + 1, 2 * longest} {
		call(t, in(slices.Repeat([]int{3}, n)...))
		call(t, out(n))
		call(t, d.workload(n, lastTime, 5))
		call(t, d.workload(n, 50, 3))
	}
}

// P1: the bounds of all numbers return.
func TestBoundsOfExtremes(t *testing.T) {
	for _, n := range extremes() {
		workload.MoveBound(n)
		workload.CompareBound(n)
	}
}
