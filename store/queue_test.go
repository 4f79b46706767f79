package store_test

import (
	"slices"
	"testing"

	"ropeladder/api"
	"ropeladder/store"
)

// peek checks that the first item is at that time, or that there is none if time is negative.
func peek(t *testing.T, s *store.Store, time int) {
	t.Helper()
	it, ok := s.Peek(0)
	if ok != (time >= 0) || ok && it.Time != time || !ok && it != (api.Item{}) {
		t.Fatalf("Peek = %v, %t, want time %d", it, ok, time)
	}
}

func topStart(s *store.Store) int { return s.Memory().Word(api.WordTopStart) }

// oneRung returns a store with the bottom item 50, a rung whose Current is 57 and whose items are at 60 to 100, and the TopStart 101.
func oneRung(t *testing.T) *store.Store {
	t.Helper()
	s := filled(t, 10, 100, 90, 80, 70, 60, 50)
	peek(t, s, 50)
	return s
}

// threeRungs returns a store with the bottom items 0 and 1, rungs whose Current is 101, 13 and 2, the items 2, 3, 4 and 800 in them, and the TopStart 801.
func threeRungs(t *testing.T) *store.Store {
	t.Helper()
	s := filled(t, 10, 0, 1, 2, 3, 4, 800)
	peek(t, s, 0)
	return s
}

// spentRung returns a store whose second rung is used up and has the Current 104, later than that of the first rung, which is 101. The bottom items are at 97 to 100.
func spentRung(t *testing.T) *store.Store {
	t.Helper()
	s := filled(t, 10, 0, 97, 98, 99, 100, 800)
	peek(t, s, 0)
	s.Drop(0)
	peek(t, s, 97)
	return s
}

// K2: no rung accepts a time if there are none.
func TestAcceptsWithoutRungs(t *testing.T) {
	empty, top, bottom := mustNew(t, 2), filled(t, 9, 1, 2, 3, 4, 5, 6), filled(t, 3, 4, 5, 6)
	peek(t, bottom, 4)
	for _, s := range []*store.Store{empty, top, bottom} {
		for _, time := range []int{0, 1, 4, 5, 6, 7, 100, api.MaxTime} {
			if s.Accepts(0, time) {
				t.Errorf("a store with the items %v accepts %d without rungs", s.Items(), time)
			}
		}
	}
}

// checkAccepts checks that the store accepts the times from first on, and no others.
func checkAccepts(t *testing.T, what string, s *store.Store, first int) {
	t.Helper()
	for _, time := range []int{0, first / 2, first - 1, first, first + 1, 2 * first, 1000, api.MaxTime} {
		if got, want := s.Accepts(0, time), time >= first; got != want {
			t.Errorf("%s: Accepts(%d) = %t", what, time, got)
		}
	}
}

// K2: a rung accepts a time at or above its Current, whichever rung it is.
func TestAccepts(t *testing.T) {
	checkAccepts(t, "one rung", oneRung(t), 57)
	s := threeRungs(t)
	checkAccepts(t, "three rungs", s, 2)
	s.Drop(0)
	s.Drop(0)
	checkAccepts(t, "three rungs and no bottom", s, 2)
	peek(t, s, 2)
	checkAccepts(t, "the third rung after its next bucket", s, 4)
	for range 3 {
		peek(t, s, s.Items()[0].Time)
		s.Drop(0)
	}
	// The last bucket of the third rung was the one of the times 4 and 5.
	checkAccepts(t, "the third rung after its last item", s, 6)
	peek(t, s, 800)
	// The first rung's width is 101, so its last bucket ends at 808.
	checkAccepts(t, "the first rung after its last item", s, 808)
	checkAccepts(t, "two rungs, of which the first one is earlier", spentRung(t), 101)
}

// K2: a rung that is used up no longer counts once Drop or Peek has removed it.
func TestAcceptsAfterTheLastRung(t *testing.T) {
	for _, refill := range []func(s *store.Store){func(s *store.Store) { s.Peek(0) }, func(s *store.Store) { s.Drop(0) }} {
		s := oneRung(t)
		for range 6 {
			s.Drop(0)
		}
		checkItems(t, s)
		if !s.Accepts(0, 200) {
			t.Fatal("the rung vanished with its last item already")
		}
		refill(s)
		if s.Accepts(0, 200) {
			t.Error("a rung is left after a refill of an empty queue")
		}
	}
}

// placement is a time at which an event is put, and the mutexes of the lists that this concerns.
type placement struct {
	what    string
	store   func(t *testing.T) *store.Store
	time    int
	mutexes []int
}

func placements() []placement {
	top, rungs, bottom := []int{api.MutexTop}, []int{api.MutexRungs}, []int{api.MutexRungs, api.MutexBottom}
	short := func(t *testing.T) *store.Store {
		s := filled(t, 10, 5, 9)
		peek(t, s, 5)
		return s
	}
	return []placement{
		{"into an empty store, at TopStart", func(t *testing.T) *store.Store { return mustNew(t, 1) }, 0, top},
		{"into an empty store", func(t *testing.T) *store.Store { return mustNew(t, 1) }, 7, top},
		{"at the last time of all", oneRung, api.MaxTime, top},
		{"above TopStart", short, 11, top},
		{"at TopStart", short, 10, top},
		{"below TopStart, without rungs", short, 9, bottom},
		{"before all items, without rungs", short, 0, bottom},
		{"above TopStart, with a rung", oneRung, 102, top},
		{"at TopStart, with a rung", oneRung, 101, top},
		{"below TopStart, with a rung", oneRung, 100, rungs},
		{"at the rung's Current", oneRung, 57, rungs},
		{"below the rung's Current", oneRung, 56, bottom},
		{"before all items, with a rung", oneRung, 0, bottom},
		{"at the first rung's Current", threeRungs, 101, rungs},
		{"below the first rung's Current", threeRungs, 100, rungs},
		{"at the second rung's Current", threeRungs, 13, rungs},
		{"below the second rung's Current", threeRungs, 12, rungs},
		{"at the third rung's Current", threeRungs, 2, rungs},
		{"below the third rung's Current", threeRungs, 1, bottom},
		{"at the first rung's Current, which is the least", spentRung, 101, rungs},
		{"below the first rung's Current, which is the least", spentRung, 100, bottom},
	}
}

// K2: Put adds the item of the slot and logs nothing.
func TestPut(t *testing.T) {
	for _, p := range placements() {
		s := p.store(t)
		h := mustAlloc(t, s, p.time)
		before, a, start := s.Items(), s.Arena(), topStart(s)
		got := watch(s, func() { s.Put(0, h%64) })
		if len(got.accesses) != 0 || topStart(s) != start {
			t.Errorf("Put %s logs %v", p.what, got.accesses)
		}
		want := append(before, api.Item{Time: p.time, Seq: a.Slots[h%64].Seq, Slot: h % 64})
		slices.SortStableFunc(want, func(x api.Item, y api.Item) int { return x.Time - y.Time })
		checkItems(t, s, want...)
		checkArena(t, s, a)
		for _, it := range want {
			if got, ok := s.Peek(0); !ok || got != it {
				t.Errorf("Put %s: the first item is %v, want %v", p.what, got, it)
			}
			s.Drop(0)
		}
	}
}

// K2: Put takes the time and the sequence number of the slot at that moment; events at one time leave in the order of their allocation, not of their insertion.
func TestPutInAnotherOrder(t *testing.T) {
	s := mustNew(t, 4)
	for _, time := range []int{6, 6, 3, 6} {
		mustAlloc(t, s, time)
	}
	for _, slot := range []int{3, 1, 2, 0} {
		s.Put(0, slot)
	}
	want := []api.Item{{Time: 3, Seq: 2, Slot: 2}, {Time: 6, Seq: 0, Slot: 0}, {Time: 6, Seq: 1, Slot: 1}, {Time: 6, Seq: 3, Slot: 3}}
	checkItems(t, s, want...)
	for i := range want {
		if it, ok := s.Peek(0); !ok || it != want[i] {
			t.Errorf("item %d is %v, want %v", i, it, want[i])
		}
		s.Drop(0)
		checkItems(t, s, want[i+1:]...)
	}
}

// K2: the state of a slot does not matter to the queue.
func TestPutOfACancelledSlot(t *testing.T) {
	s := mustNew(t, 2)
	mustAlloc(t, s, 5)
	setState(s, 0, api.Cancelled)
	s.Put(0, 0)
	if it, ok := s.Peek(0); !ok || it != (api.Item{Time: 5}) {
		t.Errorf("Peek = %v, %t", it, ok)
	}
}

// K1: Items are in order, wherever in the queue they are.
func TestItems(t *testing.T) {
	s := oneRung(t)
	for _, time := range []int{150, 120, 3, 65} {
		add(t, s, time)
	}
	var times []int
	for _, it := range s.Items() {
		times = append(times, it.Time)
	}
	if want := []int{3, 50, 60, 65, 70, 80, 90, 100, 120, 150}; !slices.Equal(times, want) {
		t.Errorf("the items are at %v, want %v", times, want)
	}
}

// K2: Peek and Drop of an empty store change and log nothing.
func TestEmptyStore(t *testing.T) {
	used := filled(t, 2, 7)
	used.Drop(0)
	for _, s := range []*store.Store{mustNew(t, 1), used} {
		start, a := topStart(s), s.Arena()
		for range 2 {
			got := watch(s, func() {
				peek(t, s, -1)
				s.Drop(0)
			})
			if len(got.accesses) != 0 || topStart(s) != start {
				t.Errorf("Peek and Drop of an empty store log %v", got.accesses)
			}
			checkItems(t, s)
			checkArena(t, s, a)
		}
	}
}

// refills runs Peek or Drop, with the time of the first item, and checks that the word WordTopStart is stored just if it changes.
func refills(t *testing.T, s *store.Store, thread int, call string, first int, start int) {
	t.Helper()
	old := topStart(s)
	got := watch(s, func() {
		if call == "Drop" {
			s.Drop(thread)
		} else if it, ok := s.Peek(thread); !ok || it.Time != first {
			t.Errorf("Peek = %v, %t, want time %d", it, ok, first)
		}
	})
	var want []api.Access
	if start != old {
		want = []api.Access{stored(thread, api.WordTopStart, old, start)}
	}
	if !slices.Equal(got.accesses, want) || topStart(s) != start {
		t.Errorf("%s at time %d logs %v, want %v; the word is %d", call, first, got.accesses, want, topStart(s))
	}
}

// K2: the first Peek after insertions into Top changes TopStart; further ones do not, whether they take items from a rung or not.
func TestPeek(t *testing.T) {
	s := filled(t, 10, 100, 90, 80, 70, 60, 50)
	all := s.Items()
	refills(t, s, 3, "Peek", 50, 101)
	refills(t, s, 3, "Peek", 50, 101)
	checkItems(t, s, all...)
	refills(t, s, 3, "Drop", 50, 101)
	refills(t, s, 4, "Peek", 60, 101)
	checkItems(t, s, all[1:]...)
	add(t, s, 300)
	refills(t, s, 4, "Peek", 60, 101)
	add(t, s, 20)
	refills(t, s, 4, "Peek", 20, 101)
	for _, time := range []int{20, 60, 70, 80, 90, 100} {
		refills(t, s, 4, "Drop", time, 101)
	}
	refills(t, s, 4, "Peek", 300, 301)
	checkItems(t, s, api.Item{Time: 300, Seq: 6, Slot: 6})
}

// K2: a Drop of an item that no Peek has fetched changes TopStart, too, also if it is the last item.
func TestDrop(t *testing.T) {
	s := filled(t, 10, 8, 2, 8)
	refills(t, s, 1, "Drop", 2, 9)
	checkItems(t, s, api.Item{Time: 8}, api.Item{Time: 8, Seq: 2, Slot: 2})
	refills(t, s, 1, "Drop", 8, 9)
	checkItems(t, s, api.Item{Time: 8, Seq: 2, Slot: 2})
	refills(t, s, 1, "Drop", 8, 9)
	checkItems(t, s)
	add(t, s, 9)
	refills(t, s, 2, "Drop", 9, 10)
	checkItems(t, s)
	refills(t, s, 2, "Drop", -1, 10)
	add(t, s, api.MaxTime)
	refills(t, s, 2, "Drop", api.MaxTime, api.MaxTime+1)
	checkItems(t, s)
}

// K2: Drop frees no slot and leaves the words of the slots alone.
func TestDropKeepsTheSlot(t *testing.T) {
	s := filled(t, 2, 8, 2)
	a := s.Arena()
	s.Drop(0)
	s.Drop(0)
	checkArena(t, s, a)
	if _, ok := s.Alloc(0, 1); ok {
		t.Error("Drop freed a slot")
	}
}

// K2: TopStart as Put goes by it is that of the queue, also where the word says something else.
func TestTopStartIsOfTheQueue(t *testing.T) {
	s := filled(t, 10, 5)
	peek(t, s, 5)
	s.Memory().Store(0, api.WordTopStart, 1000)
	h := mustAlloc(t, s, 6)
	s.Memory().TryLock(0, api.MutexTop)
	if got := watch(s, func() { s.Put(0, h%64) }); got.violations != 0 {
		t.Error("Put at TopStart touches more than the top list")
	}
	refills(t, s, 0, "Peek", 5, 1000)
	refills(t, s, 0, "Drop", 5, 1000)
	refills(t, s, 0, "Drop", 6, 7)
}
