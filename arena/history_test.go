package arena_test

import (
	"maps"
	"slices"
	"testing"

	"ropeladder/api"
	"ropeladder/arena"
	"ropeladder/handle"
)

// history is an arena and what the operations on it must have led to.
type history struct {
	arena api.Arena
	live  map[int]api.Slot // by handle
	stale map[int]bool     // the handles that were released
	stack []int            // the free slots
	next  int
}

// begin starts a history at an arena, whose live slots it takes as allocated.
func begin(a api.Arena) history {
	h := history{arena: a, live: map[int]api.Slot{}, stale: map[int]bool{}, stack: slices.Clone(a.Idle), next: a.Next}
	for i, s := range a.Slots {
		if s.State != api.Free {
			h.live[handle.Make(i, s.Gen)] = s
		}
	}
	return h
}

func (h history) copy() history {
	return history{arena: h.arena, live: maps.Clone(h.live), stale: maps.Clone(h.stale), stack: slices.Clone(h.stack), next: h.next}
}

func (h history) handles() []int { return slices.Sorted(maps.Keys(h.live)) }

// alloc allocates a slot and checks that it is the one freed last, with a handle that was never issued before (P5.3), and that it fails exactly if there is nothing to issue (P5.4).
func (h *history) alloc(t *testing.T, time int) {
	t.Helper()
	b, got, e := arena.Alloc(h.arena, time)
	if len(h.live) == len(h.arena.Slots) || h.next == lastNext {
		if e != api.ErrFull || got != 0 || !equal(b, h.arena) {
			t.Fatalf("Alloc(%v, %d) = %v, %d, %d, want ErrFull", h.arena, time, b, got, int(e))
		}
		return
	}
	last := len(h.stack) - 1
	index := h.stack[last]
	gen := h.arena.Slots[index].Gen
	_, issued := h.live[got]
	if e != api.OK || got != 64*gen+index || issued || h.stale[got] {
		t.Fatalf("Alloc(%v, %d) = %v, %d, %d; issued before: %t, %t", h.arena, time, b, got, int(e), issued, h.stale[got])
	}
	h.live[got] = api.Slot{Gen: gen, State: api.Pending, Time: time, Seq: h.next}
	h.stack = h.stack[:last]
	h.next++
	h.arena = b
}

// release frees the slot of a handle, except for one of the last generation.
func (h *history) release(t *testing.T, k int) {
	t.Helper()
	b, ok := arena.Release(h.arena, k)
	if s, live := h.live[k]; !live || s.Gen == lastGen {
		if ok || !equal(b, h.arena) {
			t.Fatalf("Release(%v, %d) = %v, %t", h.arena, k, b, ok)
		}
		return
	}
	if !ok {
		t.Fatalf("Release(%v, %d) = %v, %t", h.arena, k, b, ok)
	}
	delete(h.live, k)
	h.stale[k] = true
	h.stack = append(h.stack, k%64)
	h.arena = b
}

func (h *history) transition(t *testing.T, k int, from int, to int) {
	t.Helper()
	b, ok := arena.Transition(h.arena, k, from, to)
	s, live := h.live[k]
	if moves := live && s.State == from && to >= api.Pending && to <= api.Cancelled; ok != moves || !ok && !equal(b, h.arena) {
		t.Fatalf("Transition(%v, %d, %d, %d) = %v, %t", h.arena, k, from, to, b, ok)
	}
	if ok {
		s.State = to
		h.live[k] = s
		h.arena = b
	}
}

// check checks that the arena is valid (P5.2), that every handle refers to its slot until it is released and to none from then on (P5.3), and that nothing else is in the arena.
func (h history) check(t *testing.T) {
	t.Helper()
	a := h.arena
	if !arena.Valid(a) || !slowValid(a) || arena.Live(a) != len(h.live) || a.Next != h.next || !slices.Equal(a.Idle, h.stack) {
		t.Fatalf("%v: Valid is %t, Live %d; want %d live slots, the free slots %v and Next %d", a, arena.Valid(a), arena.Live(a), len(h.live), h.stack, h.next)
	}
	for k, want := range h.live {
		if s, ok := arena.Lookup(a, k); !ok || s != want {
			t.Fatalf("Lookup(%v, %d) = %v, %t, want %v", a, k, s, ok, want)
		}
	}
	for k := range h.stale {
		if s, ok := arena.Lookup(a, k); ok || s != (api.Slot{}) {
			t.Fatalf("Lookup(%v, %d) = %v, %t, but the handle was released", a, k, s, ok)
		}
	}
}

// explore checks the history and all its continuations of that many operations.
func explore(t *testing.T, h history, operations int) {
	t.Helper()
	h.check(t)
	if operations == 0 {
		return
	}
	follow := func(operation func(branch *history)) {
		branch := h.copy()
		operation(&branch)
		explore(t, branch, operations-1)
	}
	follow(func(branch *history) { branch.alloc(t, operations) })
	for _, k := range h.handles() {
		follow(func(branch *history) { branch.release(t, k) })
		follow(func(branch *history) { branch.transition(t, k, h.live[k].State, h.live[k].State%3+1) })
	}
	for k := range h.stale {
		checkDangling(t, h.arena, k)
	}
}

// P5.2, P5.3, P5.4: all short histories of small arenas, among them those that run out of generations or of sequence numbers.
func TestAllShortHistories(t *testing.T) {
	old := worn()
	old.Next = lastNext - 2
	for _, a := range []api.Arena{mustNew(t, 1), mustNew(t, 2), mustNew(t, 3), sample(), worn(), full(), spent(), old} {
		explore(t, begin(a), 4)
	}
	explore(t, begin(mustNew(t, 1)), 8)
	explore(t, begin(mustNew(t, 2)), 6)
}

// numbers returns a generator of pseudo-random numbers below its argument, the same ones for the same seed.
func numbers(seed uint64) func(n int) int {
	state := seed*2654435761 + 1
	return func(n int) int {
		state = state*6364136223846793005 + 1442695040888963407
		return int(state>>33) % n
	}
}

// wander performs operations that next chooses, on live handles and on stale ones.
func wander(t *testing.T, h history, next func(int) int, operations int) {
	t.Helper()
	var stale []int
	pick := func() int {
		live := h.handles()
		if n := next(len(live) + 1); n < len(live) {
			return live[n]
		}
		if len(stale) > 0 {
			return stale[next(len(stale))]
		}
		return next(64 * 4)
	}
	for range operations {
		k := pick()
		switch next(5) {
		case 0, 1:
			h.alloc(t, next(1000))
		case 2:
			h.transition(t, k, next(6)-1, next(6)-1)
		default:
			h.release(t, k)
			if h.stale[k] {
				stale = append(stale, k)
			}
		}
		h.check(t)
	}
}

// P5.2, P5.3, P5.4: long histories of arenas of all sizes, with handles that were released long ago.
func TestLongHistories(t *testing.T) {
	for capacity := 1; capacity <= 64; capacity++ {
		wander(t, begin(mustNew(t, capacity)), numbers(uint64(capacity)), 300)
	}
	for seed := range 20 {
		wander(t, begin(sample()), numbers(uint64(seed)), 300)
		wander(t, begin(worn()), numbers(uint64(seed)), 300)
	}
}

// P5.4: all slots of an arena of each capacity can be allocated, and no other.
func TestCapacity(t *testing.T) {
	for capacity := 1; capacity <= 64; capacity++ {
		h := begin(mustNew(t, capacity))
		for i := range capacity {
			h.alloc(t, capacity-i)
			h.check(t)
			if _, ok := h.live[i]; !ok || len(h.live) != i+1 {
				t.Fatalf("allocation %d of %d did not return the handle %d", i, capacity, i)
			}
		}
		h.alloc(t, 0)
		for _, k := range h.handles() {
			h.release(t, k)
			h.alloc(t, 7)
			h.alloc(t, 8)
			h.check(t)
		}
	}
}
