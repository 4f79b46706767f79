package store_test

import (
	"slices"
	"testing"

	"ropeladder/api"
	"ropeladder/arena"
	"ropeladder/handle"
	"ropeladder/shmem"
	"ropeladder/store"
)

const numMutexes = 4

func mustNew(t *testing.T, capacity int) *store.Store {
	t.Helper()
	s := store.New(capacity)
	if s == nil {
		t.Fatalf("New(%d) = nil", capacity)
	}
	return s
}

func mustAlloc(t *testing.T, s *store.Store, time int) int {
	t.Helper()
	h, ok := s.Alloc(0, time)
	if !ok {
		t.Fatalf("Alloc at time %d fails", time)
	}
	return h
}

// filled returns a store of that capacity into which events at these times were put one after the other, with the sequence numbers and the slots 0, 1 and so on. No mutexes are held.
func filled(t *testing.T, capacity int, times ...int) *store.Store {
	t.Helper()
	s := mustNew(t, capacity)
	for _, time := range times {
		s.Put(0, handle.Slot(mustAlloc(t, s, time)))
	}
	return s
}

// add puts a new event at that time.
func add(t *testing.T, s *store.Store, time int) {
	t.Helper()
	s.Put(0, handle.Slot(mustAlloc(t, s, time)))
}

// setState gives a slot another state, as cancellations and batches do.
func setState(s *store.Store, slot int, state int) {
	w := s.Memory().Word(api.WordSlots + slot)
	s.Memory().Store(0, api.WordSlots+slot, handle.Word(handle.Gen(w), state))
}

// effects are what a call leaves behind besides its results: the accesses that it logged and the number of violations that it caused.
type effects struct {
	accesses   []api.Access
	violations int
}

func watch(s *store.Store, call func()) effects {
	logged, violations := len(s.Memory().Log()), s.Memory().Violations()
	call()
	return effects{s.Memory().Log()[logged:], s.Memory().Violations() - violations}
}

// stored is the access of a shmem.Store.
func stored(thread int, word int, old int, new int) api.Access {
	return api.Access{Thread: thread, Kind: api.AccessStore, Index: word, Old: old, New: new, OK: true}
}

func equalArenas(a api.Arena, b api.Arena) bool {
	return slices.Equal(a.Slots, b.Slots) && slices.Equal(a.Idle, b.Idle) && a.Next == b.Next
}

func checkArena(t *testing.T, s *store.Store, want api.Arena) {
	t.Helper()
	if a := s.Arena(); !equalArenas(a, want) {
		t.Errorf("Arena() = %v, want %v", a, want)
	}
}

func checkItems(t *testing.T, s *store.Store, want ...api.Item) {
	t.Helper()
	if items := s.Items(); !slices.Equal(items, want) {
		t.Errorf("Items() = %v, want %v", items, want)
	}
}

// checkSize checks that a memory has just that many words and mutexes, by accesses that are logged only if the cell exists.
func checkSize(t *testing.T, m *shmem.Memory, words int, mutexes int) {
	t.Helper()
	const thread = 9
	m.Load(thread, words-1)
	m.Load(thread, words)
	if n := len(m.Log()); n != 1 {
		t.Errorf("%d of the words %d and %d exist, want the first one only", n, words-1, words)
	}
	if !m.TryLock(thread, mutexes-1) || m.TryLock(thread, mutexes) {
		t.Errorf("the memory does not have %d mutexes", mutexes)
	}
}

// K1: capacities that are allowed and those next to them.
func TestNew(t *testing.T) {
	for _, capacity := range []int{1, 2, 63, 64} {
		s := mustNew(t, capacity)
		if s.Capacity() != capacity {
			t.Errorf("the capacity of New(%d) is %d", capacity, s.Capacity())
		}
		empty, e := arena.New(capacity)
		if e != api.OK {
			t.Fatalf("arena.New(%d) fails with %d", capacity, int(e))
		}
		checkArena(t, s, empty)
		checkItems(t, s)
		m := s.Memory()
		if m == nil || len(m.Log()) != 0 || m.Violations() != 0 {
			t.Fatalf("the memory of New(%d) is nil or has accesses or violations", capacity)
		}
		for i := range capacity + 1 {
			if m.Word(i) != 0 {
				t.Errorf("word %d of New(%d) is %d", i, capacity, m.Word(i))
			}
		}
		for i := range numMutexes {
			if m.Holder(i) != -1 {
				t.Errorf("mutex %d of New(%d) is held by %d", i, capacity, m.Holder(i))
			}
		}
		checkSize(t, m, capacity+1, numMutexes)
	}
}

// K1: capacities that are not allowed.
func TestNewOfABadCapacity(t *testing.T) {
	for _, capacity := range append([]int{-64, -1, 0, 65, 66, 128, 255, 256, 257}, extremes...) {
		if capacity >= 1 && capacity <= 64 {
			continue
		}
		if s := store.New(capacity); s != nil {
			t.Errorf("New(%d) = %v, want nil", capacity, s)
		}
	}
}

// K1: Memory returns the memory itself, on which the caller's accesses and those of the store meet.
func TestMemoryIsShared(t *testing.T) {
	s := mustNew(t, 2)
	m := s.Memory()
	m.TryLock(3, api.MutexArena)
	s.Alloc(3, 5)
	if m != s.Memory() || m.Violations() != 0 || m.Word(api.WordSlots) != handle.Word(0, api.Pending) {
		t.Errorf("the memory that was returned first is not the one that the store uses")
	}
	m.Store(3, api.WordSlots+1, handle.Word(7, api.Cancelled))
	if slot := s.Arena().Slots[1]; slot.Gen != 7 || slot.State != api.Cancelled {
		t.Errorf("after a Store into its word, slot 1 is %v", slot)
	}
}

// K2: slots are allocated from the end of the free list, with consecutive sequence numbers.
func TestAlloc(t *testing.T) {
	s := mustNew(t, 2)
	got := watch(s, func() {
		if h := mustAlloc(t, s, 8); h != 0 {
			t.Errorf("the first handle is %d, want 0", h)
		}
	})
	if want := stored(0, api.WordSlots, 0, 1); !slices.Equal(got.accesses, []api.Access{want}) {
		t.Errorf("Alloc logs %v, want %v", got.accesses, want)
	}
	checkArena(t, s, api.Arena{Slots: []api.Slot{{State: api.Pending, Time: 8}, {}}, Idle: []int{1}, Next: 1})
	got = watch(s, func() {
		if h, ok := s.Alloc(5, api.MaxTime); h != 1 || !ok {
			t.Errorf("the second Alloc = %d, %t, want 1, true", h, ok)
		}
	})
	if want := stored(5, api.WordSlots+1, 0, 1); !slices.Equal(got.accesses, []api.Access{want}) {
		t.Errorf("Alloc logs %v, want %v", got.accesses, want)
	}
	full := api.Arena{Slots: []api.Slot{{State: api.Pending, Time: 8}, {State: api.Pending, Time: api.MaxTime, Seq: 1}}, Next: 2}
	checkArena(t, s, full)
	checkItems(t, s)
	for range 3 {
		got = watch(s, func() {
			if h, ok := s.Alloc(0, 1); h != 0 || ok {
				t.Errorf("Alloc with an empty free list = %d, %t", h, ok)
			}
		})
		if len(got.accesses) != 0 {
			t.Errorf("Alloc with an empty free list logs %v", got.accesses)
		}
		checkArena(t, s, full)
	}
}

// K2: the words of all slots, the first and the last one of the largest store among them.
func TestWordsOfSlots(t *testing.T) {
	const capacity = api.MaxSlots
	s := mustNew(t, capacity)
	for slot := range capacity {
		got := watch(s, func() {
			if h := mustAlloc(t, s, 100+slot); h != slot {
				t.Errorf("handle %d, want %d", h, slot)
			}
		})
		if want := stored(0, 1+slot, 0, 1); !slices.Equal(got.accesses, []api.Access{want}) {
			t.Errorf("Alloc of slot %d logs %v", slot, got.accesses)
		}
	}
	for _, slot := range []int{0, capacity - 1} {
		got := watch(s, func() { s.Free(0, slot) })
		if want := stored(0, 1+slot, 1, 4); !slices.Equal(got.accesses, []api.Access{want}) {
			t.Errorf("Free of slot %d logs %v", slot, got.accesses)
		}
	}
	a := s.Arena()
	if !slices.Equal(a.Idle, []int{0, capacity - 1}) || a.Slots[0] != (api.Slot{Gen: 1}) || a.Slots[capacity-1] != (api.Slot{Gen: 1}) || a.Slots[1] != (api.Slot{State: api.Pending, Time: 101, Seq: 1}) {
		t.Errorf("Arena() = %v", a)
	}
	if h := mustAlloc(t, s, 0); h != 64+capacity-1 {
		t.Errorf("the slot freed last has the handle %d", h)
	}
}

// K2: a freed slot has the next generation, whatever its state was, and so has the handle of its next allocation.
func TestFree(t *testing.T) {
	for _, state := range []int{api.Pending, api.Claimed, api.Cancelled} {
		s := mustNew(t, 3)
		mustAlloc(t, s, 4)
		mustAlloc(t, s, 9)
		setState(s, 1, state)
		got := watch(s, func() { s.Free(2, 1) })
		if want := stored(2, api.WordSlots+1, state, handle.Word(1, api.Free)); !slices.Equal(got.accesses, []api.Access{want}) {
			t.Errorf("Free of a slot in state %d logs %v, want %v", state, got.accesses, want)
		}
		checkArena(t, s, api.Arena{Slots: []api.Slot{{State: api.Pending, Time: 4}, {Gen: 1}, {}}, Idle: []int{2, 1}, Next: 2})
		got = watch(s, func() {
			if h, ok := s.Alloc(2, 7); h != handle.Make(1, 1) || !ok {
				t.Errorf("Alloc of the freed slot = %d, %t, want 65, true", h, ok)
			}
		})
		if want := stored(2, api.WordSlots+1, handle.Word(1, api.Free), handle.Word(1, api.Pending)); !slices.Equal(got.accesses, []api.Access{want}) {
			t.Errorf("Alloc of a freed slot logs %v, want %v", got.accesses, want)
		}
		checkArena(t, s, api.Arena{Slots: []api.Slot{{State: api.Pending, Time: 4}, {Gen: 1, State: api.Pending, Time: 7, Seq: 2}, {}}, Idle: []int{2}, Next: 3})
	}
}

// K2: each Free of a slot increases its generation, and the sequence numbers go on.
func TestGenerations(t *testing.T) {
	s := mustNew(t, 1)
	for gen := range 200 {
		if h := mustAlloc(t, s, gen); h != 64*gen {
			t.Fatalf("handle %d in generation %d", h, gen)
		}
		checkArena(t, s, api.Arena{Slots: []api.Slot{{Gen: gen, State: api.Pending, Time: gen, Seq: gen}}, Next: gen + 1})
		s.Free(0, 0)
		checkArena(t, s, api.Arena{Slots: []api.Slot{{Gen: gen + 1}}, Idle: []int{0}, Next: gen + 1})
	}
}

// K2: the generation that Alloc and Free go by is the one in the word.
func TestGenerationIsInTheWord(t *testing.T) {
	const gen = 1<<40 - 1
	s := mustNew(t, 2)
	s.Memory().Store(0, api.WordSlots, handle.Word(gen, api.Free))
	if h := mustAlloc(t, s, 1); h != 64*gen {
		t.Errorf("the handle is %d, want %d", h, 64*gen)
	}
	s.Free(0, 0)
	if w := s.Memory().Word(api.WordSlots); w != handle.Word(gen+1, api.Free) {
		t.Errorf("the word is %d, want %d", w, handle.Word(gen+1, api.Free))
	}
	if slot := s.Arena().Slots[0]; slot != (api.Slot{Gen: gen + 1}) {
		t.Errorf("the slot is %v", slot)
	}
}

// K2: Free takes every slot of the arena, also one that is free.
func TestFreeOfAFreeSlot(t *testing.T) {
	s := mustNew(t, 2)
	s.Free(0, 1)
	checkArena(t, s, api.Arena{Slots: []api.Slot{{}, {Gen: 1}}, Idle: []int{1, 0, 1}})
}

// K1: Arena shows State and Gen of each slot as its word has them, and all the rest as the store has it.
func TestArena(t *testing.T) {
	s := filled(t, 4, 30, 20, 10)
	setState(s, 0, api.Claimed)
	setState(s, 1, api.Cancelled)
	s.Drop(0)
	s.Free(0, 2)
	checkArena(t, s, api.Arena{
		Slots: []api.Slot{{State: api.Claimed, Time: 30}, {State: api.Cancelled, Time: 20, Seq: 1}, {Gen: 1}, {}},
		Idle:  []int{3, 2},
		Next:  3,
	})
}

// The example of the chapter.
func TestExample(t *testing.T) {
	s := mustNew(t, 1)
	for i := range numMutexes {
		s.Memory().TryLock(0, i)
	}
	if h, ok := s.Alloc(0, 5); h != 0 || !ok {
		t.Errorf("Alloc = %d, %t", h, ok)
	}
	s.Put(0, 0)
	if it, ok := s.Peek(0); it != (api.Item{Time: 5}) || !ok {
		t.Errorf("Peek = %v, %t, want the item at time 5 in slot 0", it, ok)
	}
	if s.Memory().Violations() != 0 {
		t.Errorf("%d violations", s.Memory().Violations())
	}
}
