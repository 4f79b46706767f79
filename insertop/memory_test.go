package insertop_test

import (
	"fmt"
	"math"
	"slices"
	"testing"

	"ropeladder/api"
	"ropeladder/insertop"
	"ropeladder/store"
)

// extremes are the integers at the ends of the range and at the bounds of the document's.
var extremes = []int{
	math.MinInt, math.MinInt + 1, -1 << 62, -api.MaxTime - 1, -1 << 40, -64, -2, -1, 0, 1, 2, 3, 63, 64, 65, 1 << 40,
	api.MaxTime - 1, api.MaxTime, api.MaxTime + 1, 1 << 61, 1 << 62, math.MaxInt - 1, math.MaxInt,
}

// stepTimes takes so many steps, also after the call has returned, and asks for everything in between.
func stepTimes(o *insertop.Op, count int) {
	for range count {
		o.Step()
		o.Result()
		o.Effect()
		o.Blocked()
	}
}

// P1: calls with any integers for any thread, on stores in any state, terminate and do not panic, also if they are stepped on.
func TestExtremeArguments(t *testing.T) {
	for _, thread := range extremes {
		for _, n := range extremes {
			for _, s := range []*store.Store{mustNew(t, 1), filled(t, 1, 5), withRung(t, 9)} {
				stepTimes(insertop.New(s, thread, api.Call{Kind: n, Time: n, Handle: n, Max: n, Bound: n}), 15)
			}
		}
	}
}

// P1: the words and the mutexes of the store may be used by others in any way.
func TestDisturbedCalls(t *testing.T) {
	for seed := range uint64(300) {
		next := numbers(seed)
		extreme := func() int { return extremes[next(len(extremes))] }
		s := mustNew(t, 1+next(9))
		var calls []*insertop.Op
		for range 400 {
			switch next(12) {
			case 0:
				calls = append(calls, insertop.New(s, next(3), insertion(extreme())))
			case 1:
				s.Memory().Store(keeper, next(10), extreme())
			case 2:
				s.Memory().Unlock(next(3), next(numMutexes))
			case 3:
				s.Memory().TryLock(next(3), next(numMutexes))
			case 4:
				s.Peek(next(3))
				s.Drop(next(3))
			case 5:
				s.Free(keeper, next(10))
			default:
				if len(calls) > 0 {
					stepTimes(calls[next(len(calls))], 1)
				}
			}
		}
	}
}

// P1: the methods of no call, of a zero one and of a call without a store return.
func TestNoCall(t *testing.T) {
	for _, o := range []*insertop.Op{nil, {}} {
		if !o.Step() || o.Effect() || o.Blocked() || !isZero(o.Result()) {
			t.Errorf("something happens in a call that New did not return")
		}
	}
	for _, time := range extremes {
		for _, s := range []*store.Store{nil, {}} {
			stepTimes(insertop.New(s, 0, insertion(time)), 20)
		}
	}
}

// Step must not be called after the call has returned; if it is, nothing happens any more.
func TestStepAfterReturn(t *testing.T) {
	s := mustNew(t, 2)
	for _, time := range []int{5, -1, 6, 7} {
		o := insertop.New(s, caller, insertion(time))
		for !o.Step() {
		}
		want, before := o.Result(), fmt.Sprint(s.Memory().Log(), s.Arena(), s.Items())
		for range 3 {
			if !o.Step() || !sameResult(o.Result(), want) {
				t.Errorf("the call of time %d goes on after it has returned", time)
			}
		}
		if after := fmt.Sprint(s.Memory().Log(), s.Arena(), s.Items()); after != before {
			t.Errorf("the call of time %d changes the store after it has returned", time)
		}
	}
	checkQuiet(t, s)
}

// P2: calls on different stores are independent of each other, and the same calls and steps lead to the same.
func TestStoresAreIndependent(t *testing.T) {
	a, b, c := newCrowd(t, 5, 3), newCrowd(t, 5, 3), newCrowd(t, 5, 3)
	nextA, nextB, nextC := numbers(1), numbers(1), numbers(2)
	for range 600 {
		a.step(t, nextA)
		b.step(t, nextB)
		c.step(t, nextC)
	}
	logA, logB, logC := a.store.Memory().Log(), b.store.Memory().Log(), c.store.Memory().Log()
	if !slices.Equal(logA, logB) || fmt.Sprint(a.store.Arena(), a.store.Items()) != fmt.Sprint(b.store.Arena(), b.store.Items()) {
		t.Error("the same steps on two stores lead to different ones")
	}
	if slices.Equal(logA, logC) {
		t.Error("different steps lead to the same store")
	}
}

// P2: what a caller does with results and snapshots does not reach the call.
func TestResultsAreCopies(t *testing.T) {
	s := mustNew(t, 1)
	o := insertop.New(s, caller, insertion(5))
	for !o.Step() {
	}
	r := o.Result()
	r.Handle, r.Err, r.Cancelled, r.Events = 9, api.ErrFull, true, append(r.Events, api.Event{Time: 1})
	checkResult(t, o, api.Result{Handle: 0})
}
