package store_test

import (
	"fmt"
	"slices"
	"testing"

	"ropeladder/api"
	"ropeladder/store"
)

// situation is a call on a store, the mutexes that K2 mentions for it, and the accesses that it logs for its thread.
type situation struct {
	what     string
	store    func(t *testing.T) *store.Store
	call     func(s *store.Store, thread int) string
	mutexes  []int
	accesses func(thread int) []api.Access
}

func nothing(thread int) []api.Access { return nil }

// storing returns the log of a call that stores one word.
func storing(word int, old int, new int) func(thread int) []api.Access {
	return func(thread int) []api.Access { return []api.Access{stored(thread, word, old, new)} }
}

func alloc(s *store.Store, thread int) string {
	h, ok := s.Alloc(thread, 40)
	return fmt.Sprint(h, ok)
}

func free(s *store.Store, thread int) string {
	s.Free(thread, 1)
	return ""
}

func accepts(s *store.Store, thread int) string { return fmt.Sprint(s.Accepts(thread, 60)) }

func peekFirst(s *store.Store, thread int) string {
	it, ok := s.Peek(thread)
	return fmt.Sprint(it, ok)
}

func drop(s *store.Store, thread int) string {
	s.Drop(thread)
	return ""
}

// having returns a function that makes a store with events at these times, which prepare then changes.
func having(prepare func(s *store.Store), times ...int) func(t *testing.T) *store.Store {
	return func(t *testing.T) *store.Store {
		s := filled(t, len(times)+1, times...)
		prepare(s)
		return s
	}
}

func asIs(s *store.Store) {}

func arenaSituations() []situation {
	inState := func(state int) func(*store.Store) { return func(s *store.Store) { setState(s, 1, state) } }
	guard := []int{api.MutexArena}
	full := having(func(s *store.Store) { s.Alloc(0, 1) }, 5, 6)
	freed := having(func(s *store.Store) { s.Free(0, 1) }, 5, 6)
	return []situation{
		{"Alloc", having(asIs, 5, 6), alloc, guard, storing(3, 0, 1)},
		{"Alloc without free slots", full, alloc, guard, nothing},
		{"Alloc of a freed slot", freed, alloc, guard, storing(2, 4, 5)},
		{"Free of a pending slot", having(asIs, 5, 6), free, guard, storing(2, 1, 4)},
		{"Free of a claimed slot", having(inState(api.Claimed), 5, 6), free, guard, storing(2, 2, 4)},
		{"Free of a cancelled slot", having(inState(api.Cancelled), 5, 6), free, guard, storing(2, 3, 4)},
	}
}

func queueSituations() []situation {
	peeked := func(s *store.Store) { s.Peek(0) }
	emptied := func(s *store.Store) { s.Drop(0) }
	all := []int{api.MutexTop, api.MutexRungs, api.MutexBottom}
	guard := []int{api.MutexRungs}
	return []situation{
		{"Accepts without rungs", having(asIs, 5, 6), accepts, guard, nothing},
		{"Accepts with a rung", oneRung, accepts, guard, nothing},
		{"Accepts with three rungs", threeRungs, accepts, guard, nothing},
		{"Peek of an empty store", having(asIs), peekFirst, all, nothing},
		{"Peek of an emptied store", having(emptied, 5), peekFirst, all, nothing},
		{"Peek that sorts Top", having(asIs, 6, 5), peekFirst, all, storing(0, 0, 7)},
		{"Peek that spreads Top", having(asIs, 6, 5, 4, 3, 2), peekFirst, all, storing(0, 0, 7)},
		{"Peek with a bottom list", having(peeked, 6, 5), peekFirst, all, nothing},
		{"Peek that takes a bucket", func(t *testing.T) *store.Store {
			s := oneRung(t)
			s.Drop(0)
			return s
		}, peekFirst, all, nothing},
		{"Drop of an empty store", having(asIs), drop, all, nothing},
		{"Drop of an emptied store", having(emptied, 5), drop, all, nothing},
		{"Drop of the last item", having(peeked, 5), drop, all, nothing},
		{"Drop of the last item, in Top", having(asIs, 5), drop, all, storing(0, 0, 6)},
		{"Drop of an item", having(peeked, 5, 6), drop, all, nothing},
		{"Drop of an item in Top", having(asIs, 5, 6), drop, all, storing(0, 0, 7)},
	}
}

func putSituations() []situation {
	var list []situation
	for _, p := range placements() {
		slot := 0
		list = append(list, situation{
			"Put " + p.what,
			func(t *testing.T) *store.Store {
				s := p.store(t)
				slot = mustAlloc(t, s, p.time) % 64
				return s
			},
			func(s *store.Store, thread int) string {
				s.Put(thread, slot)
				return ""
			},
			p.mutexes,
			nothing,
		})
	}
	return list
}

// readers are the methods that K1 describes, which access nothing that is guarded or logged.
func readers() []situation {
	var list []situation
	for _, stock := range []func(*testing.T) *store.Store{oneRung, having(asIs), having(asIs, 5, 6)} {
		list = append(list,
			situation{"Memory", stock, func(s *store.Store, _ int) string { return fmt.Sprint(s.Memory() == nil) }, nil, nothing},
			situation{"Capacity", stock, func(s *store.Store, _ int) string { return fmt.Sprint(s.Capacity()) }, nil, nothing},
			situation{"Arena", stock, func(s *store.Store, _ int) string { return fmt.Sprint(s.Arena()) }, nil, nothing},
			situation{"Items", stock, func(s *store.Store, _ int) string { return fmt.Sprint(s.Items()) }, nil, nothing},
		)
	}
	return list
}

// outcome is what a call on a store led to: its result, the arena and the items.
func outcome(s *store.Store, result string) string {
	return fmt.Sprint(result, " ", s.Arena(), " ", s.Items(), " ", topStart(s))
}

// checkHolding makes the call while its thread holds the mutexes of a set (bit i stands for mutex i) and another thread, if there is one, the others.
func checkHolding(t *testing.T, c situation, set int, thread int, other int) string {
	t.Helper()
	s := c.store(t)
	missing := 0
	for i := range numMutexes {
		if set>>i&1 == 1 {
			s.Memory().TryLock(thread, i)
		} else if other >= 0 {
			s.Memory().TryLock(other, i)
		}
		if set>>i&1 == 0 && slices.Contains(c.mutexes, i) {
			missing++
		}
	}
	var result string
	got := watch(s, func() { result = c.call(s, thread) })
	if got.violations != missing {
		t.Errorf("%s by thread %d with the mutexes %04b: %d violations, want %d", c.what, thread, set, got.violations, missing)
	}
	if !slices.Equal(got.accesses, c.accesses(thread)) {
		t.Errorf("%s by thread %d with the mutexes %04b logs %v, want %v", c.what, thread, set, got.accesses, c.accesses(thread))
	}
	for i := range numMutexes {
		if holds := s.Memory().Holder(i) == thread; holds != (set>>i&1 == 1) {
			t.Errorf("%s changes the holder of mutex %d", c.what, i)
		}
	}
	return outcome(s, result)
}

// P11.2, K2: a call declares its accesses once for each of its mutexes, so that each one that the thread does not hold is a violation and no other is; and it does its work all the same.
func TestDiscipline(t *testing.T) {
	for _, c := range slices.Concat(arenaSituations(), queueSituations(), putSituations(), readers()) {
		want := checkHolding(t, c, 1<<numMutexes-1, 0, -1)
		for set := range 1 << numMutexes {
			for _, threads := range [][2]int{{0, -1}, {0, 1}, {1, 0}, {63, 2}} {
				if got := checkHolding(t, c, set, threads[0], threads[1]); got != want {
					t.Errorf("%s with the mutexes %04b leads to %s, want %s", c.what, set, got, want)
				}
			}
		}
	}
}

// P11.2: a thread that holds all mutexes causes no violation in any sequence of calls.
func TestNoViolations(t *testing.T) {
	s := mustNew(t, 8)
	for i := range numMutexes {
		s.Memory().TryLock(5, i)
	}
	next := numbers(1)
	for range 2000 {
		switch next(6) {
		case 0:
			s.Free(5, next(8))
		case 1:
			s.Accepts(5, next(50))
		case 2:
			s.Peek(5)
		case 3:
			s.Drop(5)
		default:
			if h, ok := s.Alloc(5, next(50)); ok {
				s.Put(5, h%64)
			}
		}
		if n := s.Memory().Violations(); n != 0 {
			t.Fatalf("%d violations", n)
		}
	}
}
