package store_test

import (
	"fmt"
	"math"
	"slices"
	"testing"

	"ropeladder/api"
	"ropeladder/store"
)

// extremes are the integers at the ends of the range and at the bounds of the document's.
var extremes = []int{
	math.MinInt, math.MinInt + 1, -1 << 62, -api.MaxTime - 1, -1 << 40, -64, -2, -1, 0, 1, 2, 3, 63, 64, 65, 1 << 40,
	api.MaxTime - 1, api.MaxTime, api.MaxTime + 1, 1 << 61, 1 << 62, math.MaxInt - 1, math.MaxInt,
}

// scribble overwrites all the memory that the snapshots of a store can reach.
func scribble(a api.Arena, items []api.Item) {
	const marker = -777
	slots, idle := a.Slots[:cap(a.Slots)], a.Idle[:cap(a.Idle)]
	for i := range slots {
		slots[i] = api.Slot{Gen: marker, State: marker, Time: marker, Seq: marker}
	}
	for i := range idle {
		idle[i] = marker
	}
	items = items[:cap(items)]
	for i := range items {
		items[i] = api.Item{Time: marker, Seq: marker, Slot: marker}
	}
}

// samples are stores in all kinds of states.
func samples(t *testing.T) map[string]*store.Store {
	t.Helper()
	partly := filled(t, 5, 9, 4, 6)
	partly.Drop(0)
	partly.Free(0, 1)
	return map[string]*store.Store{
		"an empty store":         mustNew(t, 3),
		"a store with a top":     filled(t, 3, 3, 2, 1),
		"a store in part":        partly,
		"a store with a rung":    oneRung(t),
		"a store with rungs":     threeRungs(t),
		"a store with all lists": withAllLists(t),
	}
}

func withAllLists(t *testing.T) *store.Store {
	t.Helper()
	s := threeRungs(t)
	add(t, s, 900)
	add(t, s, 850)
	add(t, s, 50)
	return s
}

// Rules: Arena and Items return copies: a change of one does not reach the store, and a change of the store does not reach a copy.
func TestSnapshotsShareNothing(t *testing.T) {
	for what, s := range samples(t) {
		a, items := s.Arena(), s.Items()
		shownArena, shownItems := fmt.Sprint(a), fmt.Sprint(items)
		scribble(s.Arena(), s.Items())
		if fmt.Sprint(s.Arena()) != shownArena || fmt.Sprint(s.Items()) != shownItems {
			t.Errorf("a change of the snapshots of %s changes it to %v, %v", what, s.Arena(), s.Items())
		}
		for range 4 {
			if h, ok := s.Alloc(0, 60); ok {
				s.Put(0, h%64)
			}
			s.Peek(0)
			s.Drop(0)
			s.Free(0, 0)
		}
		if fmt.Sprint(a) != shownArena || fmt.Sprint(items) != shownItems {
			t.Errorf("calls on %s change its snapshots to %v, %v", what, a, items)
		}
	}
}

// Rules: what a caller does with snapshots has no effect on later calls.
func TestScribbledHistory(t *testing.T) {
	quiet, loud := begin(t, 12), begin(t, 12)
	nextQuiet, nextLoud := numbers(8), numbers(8)
	for range 500 {
		quiet.step(t, nextQuiet, func(int) int { return nextQuiet(90) }, 3)
		loud.step(t, nextLoud, func(int) int { return nextLoud(90) }, 3)
		scribble(loud.store.Arena(), loud.store.Items())
		loud.check(t)
	}
	if !slices.Equal(quiet.store.Memory().Log(), loud.store.Memory().Log()) {
		t.Error("the logs differ")
	}
}

// P2: stores are independent of each other, and the same calls on two of them have the same results.
func TestStoresAreIndependent(t *testing.T) {
	const count = 3
	var together []*history
	var nexts []func(int) int
	for seed := range uint64(count) {
		together = append(together, begin(t, 9))
		nexts = append(nexts, numbers(seed/2))
	}
	for range 400 {
		for i, h := range together {
			h.step(t, nexts[i], func(int) int { return nexts[i](300) }, 3)
			h.check(t)
		}
	}
	a, b := together[0].store, together[1].store
	if outcome(a, "") != outcome(b, "") || !slices.Equal(a.Memory().Log(), b.Memory().Log()) {
		t.Error("the same calls on two stores lead to different ones")
	}
	if outcome(a, "") == outcome(together[2].store, "") {
		t.Error("different calls lead to the same store")
	}
}

// callAll makes every call with these arguments, each of which may be any integer.
func callAll(s *store.Store, thread int, time int, slot int) {
	s.Memory()
	s.Capacity()
	s.Alloc(thread, time)
	s.Put(thread, slot)
	s.Accepts(thread, time)
	s.Peek(thread)
	s.Items()
	s.Drop(thread)
	s.Free(thread, slot)
	s.Arena()
}

// P1: slots that do not exist and negative threads: every function returns, and no such slot gets into the store.
func TestSlotsThatDoNotExist(t *testing.T) {
	for what, s := range samples(t) {
		want := fmt.Sprint(s.Arena(), s.Items())
		capacity := s.Capacity()
		for _, slot := range append(slices.Clone(extremes), capacity, capacity+1, 255, 256, 257) {
			if slot >= 0 && slot < capacity {
				continue
			}
			for _, thread := range []int{math.MinInt, -1, 0, 64, math.MaxInt} {
				got := watch(s, func() {
					s.Put(thread, slot)
					s.Free(thread, slot)
				})
				if len(got.accesses) != 0 || fmt.Sprint(s.Arena(), s.Items()) != want {
					t.Fatalf("slot %d changes %s to %v, %v and logs %v", slot, what, s.Arena(), s.Items(), got.accesses)
				}
			}
		}
	}
}

// P1: every function returns and does not panic, for all integers as threads, times and slots, in whatever order.
func TestExtremeArguments(t *testing.T) {
	for _, capacity := range []int{1, 2, 9, 64} {
		for _, thread := range []int{math.MinInt, -1, 0, math.MaxInt} {
			s := mustNew(t, capacity)
			for i := range numMutexes {
				s.Memory().TryLock(thread, i)
			}
			for _, time := range extremes {
				for _, slot := range extremes {
					callAll(s, thread, time, slot)
				}
			}
		}
	}
	for seed := range uint64(200) {
		next := numbers(seed)
		extreme := func() int { return extremes[next(len(extremes))] }
		s := mustNew(t, 1+next(64))
		for range 60 {
			s.Memory().Store(extreme(), next(70), extreme())
			for range next(9) {
				s.Alloc(extreme(), extreme())
				s.Put(extreme(), next(s.Capacity()))
			}
			callAll(s, extreme(), extreme(), extreme())
		}
	}
}

// P1: the methods of a nil store, which New may have returned, and of a zero one return, and there is nothing in it.
func TestNoStore(t *testing.T) {
	for _, s := range []*store.Store{nil, {}, store.New(0)} {
		for _, n := range extremes {
			callAll(s, n, n, n)
			if h, ok := s.Alloc(n, n); h != 0 || ok {
				t.Errorf("Alloc = %d, %t", h, ok)
			}
			if it, ok := s.Peek(n); it != (api.Item{}) || ok {
				t.Errorf("Peek = %v, %t", it, ok)
			}
			if s.Accepts(n, n) {
				t.Errorf("Accepts(%d, %d) is true", n, n)
			}
		}
		if s.Memory() != nil || s.Capacity() != 0 || len(s.Items()) != 0 || !equalArenas(s.Arena(), api.Arena{}) {
			t.Errorf("there is something in no store: %v, %v", s.Arena(), s.Items())
		}
	}
}
