package store_test

import (
	"slices"
	"testing"

	"ropeladder/api"
	"ropeladder/handle"
	"ropeladder/ladder"
	"ropeladder/rung"
	"ropeladder/store"
)

// history is a store and what the calls on it must have led to, by a literal reading of K1 and K2. Its calls are those of a caller that puts every allocated slot once and frees it after its item was dropped.
type history struct {
	store      *store.Store
	slots      []api.Slot
	idle       []int
	next       int
	queue      api.Ladder   // what the store's queue must be
	queued     []api.Item   // the put items that have not been dropped
	unput      []int        // the allocated slots that have not been put
	dropped    []int        // the slots whose items have been dropped
	issued     map[int]bool // the handles
	accesses   []api.Access
	violations int
	tally      map[string]int // how often which case occurred
	deepest    int            // the most rungs that there were at a time
}

func begin(t *testing.T, capacity int) *history {
	t.Helper()
	h := &history{store: mustNew(t, capacity), slots: make([]api.Slot, capacity), issued: map[int]bool{}, tally: map[string]int{}}
	for slot := range capacity {
		h.idle = append([]int{slot}, h.idle...)
	}
	return h
}

// touch counts the violations of a thread that accesses what the mutexes guard.
func (h *history) touch(thread int, mutexes ...int) {
	for _, i := range mutexes {
		if h.store.Memory().Holder(i) != thread {
			h.violations++
		}
	}
}

func (h *history) setWord(thread int, slot int, next api.Slot) {
	old := handle.Word(h.slots[slot].Gen, h.slots[slot].State)
	h.accesses = append(h.accesses, stored(thread, api.WordSlots+slot, old, handle.Word(next.Gen, next.State)))
	h.slots[slot] = next
}

func (h *history) setQueue(thread int, q api.Ladder) {
	if q.TopStart != h.queue.TopStart {
		h.tally["a new TopStart"]++
		h.accesses = append(h.accesses, stored(thread, api.WordTopStart, h.queue.TopStart, q.TopStart))
	}
	h.queue = q
	h.deepest = max(h.deepest, len(q.Rungs))
}

func (h *history) alloc(t *testing.T, thread int, time int) {
	t.Helper()
	got, ok := h.store.Alloc(thread, time)
	h.touch(thread, api.MutexArena)
	if len(h.idle) == 0 {
		h.tally["no free slot"]++
		if got != 0 || ok {
			t.Fatalf("Alloc without free slots = %d, %t", got, ok)
		}
		return
	}
	slot := h.idle[len(h.idle)-1]
	h.idle = h.idle[:len(h.idle)-1]
	gen := h.slots[slot].Gen
	if got != 64*gen+slot || !ok || h.issued[got] {
		t.Fatalf("Alloc = %d, %t, want slot %d of generation %d; issued before: %t", got, ok, slot, gen, h.issued[got])
	}
	h.issued[got] = true
	h.setWord(thread, slot, api.Slot{Gen: gen, State: api.Pending, Time: time, Seq: h.next})
	h.next++
	h.unput = append(h.unput, slot)
}

// accepts returns whether a rung accepts the time.
func (h *history) accepts(time int) bool {
	for _, r := range h.queue.Rungs {
		if rung.Current(r) <= time {
			return true
		}
	}
	return false
}

// put puts the slot that is the n-th one of those allocated and not yet put.
func (h *history) put(thread int, n int) {
	slot := h.unput[n]
	h.unput = slices.Delete(h.unput, n, n+1)
	it := api.Item{Time: h.slots[slot].Time, Seq: h.slots[slot].Seq, Slot: slot}
	switch {
	case it.Time >= h.queue.TopStart:
		h.tally["put into Top"]++
		h.touch(thread, api.MutexTop)
	case h.accepts(it.Time):
		h.tally["put into a rung"]++
		h.touch(thread, api.MutexRungs)
	default:
		h.tally["put into Bottom"]++
		h.touch(thread, api.MutexRungs, api.MutexBottom)
	}
	h.queue = ladder.Insert(h.queue, it)
	h.queued = append(h.queued, it)
	h.store.Put(thread, slot)
}

// least returns the index of the least of the queued items, which are not empty.
func (h *history) least() int {
	best := 0
	for i, it := range h.queued {
		if b := h.queued[best]; it.Time < b.Time || it.Time == b.Time && it.Seq < b.Seq {
			best = i
		}
	}
	return best
}

func (h *history) peek(t *testing.T, thread int) {
	t.Helper()
	var want api.Item
	if len(h.queued) > 0 {
		want = h.queued[h.least()]
	}
	it, ok := h.store.Peek(thread)
	if it != want || ok != (len(h.queued) > 0) {
		t.Fatalf("Peek = %v, %t, want %v of %d items", it, ok, want, len(h.queued))
	}
	h.touch(thread, api.MutexTop, api.MutexRungs, api.MutexBottom)
	q, _, _ := ladder.Peek(h.queue)
	h.setQueue(thread, q)
}

func (h *history) drop(thread int) {
	h.store.Drop(thread)
	h.touch(thread, api.MutexTop, api.MutexRungs, api.MutexBottom)
	q, _, _ := ladder.Pop(h.queue)
	h.setQueue(thread, q)
	if len(h.queued) == 0 {
		h.tally["drop of nothing"]++
		return
	}
	n := h.least()
	h.dropped = append(h.dropped, h.queued[n].Slot)
	h.queued = slices.Delete(h.queued, n, n+1)
}

// free frees the slot that is the n-th one of those whose items were dropped.
func (h *history) free(thread int, n int) {
	slot := h.dropped[n]
	h.dropped = slices.Delete(h.dropped, n, n+1)
	h.store.Free(thread, slot)
	h.touch(thread, api.MutexArena)
	h.tally["free of state "+string(rune('0'+h.slots[slot].State))]++
	h.setWord(thread, slot, api.Slot{Gen: h.slots[slot].Gen + 1})
	h.idle = append(h.idle, slot)
}

// swap changes the state of a slot as a cancellation or a batch does, if the slot is pending.
func (h *history) swap(thread int, slot int, state int) {
	s := h.slots[slot]
	old, next := handle.Word(s.Gen, api.Pending), handle.Word(s.Gen, state)
	ok := h.store.Memory().CompareAndSwap(thread, api.WordSlots+slot, old, next)
	before := handle.Word(s.Gen, s.State)
	a := api.Access{Thread: thread, Kind: api.AccessCAS, Index: api.WordSlots + slot, Old: before, New: before, OK: ok}
	if ok {
		a.New = next
		h.slots[slot].State = state
	}
	h.accesses = append(h.accesses, a)
}

// lock makes the thread acquire a mutex that is free, or release one that it holds.
func (h *history) lock(thread int, i int) {
	m := h.store.Memory()
	before := len(m.Log())
	if m.Holder(i) == thread {
		m.Unlock(thread, i)
	} else {
		m.TryLock(thread, i)
	}
	h.accesses = append(h.accesses, m.Log()[before:]...)
}

// check checks that the store is what the calls must have led to (P11.1), and that its items and its word WordTopStart are (P11.3).
func (h *history) check(t *testing.T) {
	t.Helper()
	s, m := h.store, h.store.Memory()
	if a := s.Arena(); !equalArenas(a, api.Arena{Slots: h.slots, Idle: h.idle, Next: h.next}) {
		t.Fatalf("Arena() = %v, want the slots %v, %v idle, Next %d", a, h.slots, h.idle, h.next)
	}
	for i, slot := range h.slots {
		if w := m.Word(api.WordSlots + i); w != handle.Word(slot.Gen, slot.State) {
			t.Fatalf("the word of slot %d is %d, the slot must be %v", i, w, slot)
		}
	}
	want := slices.Clone(h.queued)
	slices.SortFunc(want, func(a api.Item, b api.Item) int {
		if a.Time != b.Time {
			return a.Time - b.Time
		}
		return a.Seq - b.Seq
	})
	if items := s.Items(); !slices.Equal(items, want) {
		t.Fatalf("Items() = %v, want %v", items, want)
	}
	if w := m.Word(api.WordTopStart); w != h.queue.TopStart {
		t.Fatalf("the word WordTopStart is %d, want %d", w, h.queue.TopStart)
	}
	if log := m.Log(); !slices.Equal(log, h.accesses) {
		t.Fatalf("the log has %d accesses, want %d; it ends with %v, want %v", len(log), len(h.accesses), tail(log), tail(h.accesses))
	}
	if m.Violations() != h.violations || s.Capacity() != len(h.slots) {
		t.Fatalf("%d violations, want %d; capacity %d", m.Violations(), h.violations, s.Capacity())
	}
}

func tail(log []api.Access) []api.Access { return log[max(0, len(log)-3):] }

// checkAccepts checks Accepts at the times next to the Current of every rung.
func (h *history) checkAccepts(t *testing.T, thread int) {
	t.Helper()
	times := []int{0, h.queue.TopStart, api.MaxTime}
	for _, r := range h.queue.Rungs {
		times = append(times, max(rung.Current(r)-1, 0), rung.Current(r), rung.Current(r)+1)
	}
	for _, time := range times {
		h.touch(thread, api.MutexRungs)
		if got := h.store.Accepts(thread, time); got != h.accepts(time) {
			t.Fatalf("Accepts(%d) = %t with the rungs %v", time, got, h.queue.Rungs)
		}
	}
}

const numKinds = 9

// perform makes a call of that kind, if there is something to make it with.
func (h *history) perform(t *testing.T, kind int) {
	t.Helper()
	const thread = 0
	switch {
	case kind < 3:
		h.alloc(t, thread, []int{0, 3, 40}[kind])
	case kind == 3 && len(h.unput) > 0:
		h.put(thread, 0)
	case kind == 4 && len(h.unput) > 0:
		h.put(thread, len(h.unput)-1)
	case kind == 5:
		h.peek(t, thread)
	case kind == 6:
		h.drop(thread)
	case kind == 7 && len(h.dropped) > 0:
		h.free(thread, 0)
	case kind == 8:
		h.swap(thread, 0, api.Cancelled)
	}
}

// explore checks all sequences of so many calls on a new store, each by a number of so many digits.
func explore(t *testing.T, capacity int, length int) {
	t.Helper()
	codes := 1
	for range length {
		codes *= numKinds
	}
	for code := range codes {
		h := begin(t, capacity)
		for n, rest := 0, code; n < length; n, rest = n+1, rest/numKinds {
			h.perform(t, rest%numKinds)
		}
		h.check(t)
	}
}

// P11.1, P11.3: all short sequences of calls on small stores.
func TestAllShortHistories(t *testing.T) {
	for length := range 5 {
		explore(t, 1, length)
		explore(t, 2, length)
		explore(t, 3, length)
	}
	explore(t, 1, 5)
	explore(t, 2, 6)
}

// numbers returns a generator of pseudo-random numbers below its argument, the same ones for the same seed.
func numbers(seed uint64) func(n int) int {
	state := seed*2654435761 + 1
	return func(n int) int {
		state = state*6364136223846793005 + 1442695040888963407
		return int(state>>33) % n
	}
}

// spreads are ways to choose the times of events, which reach all parts of a queue.
func spreads(next func(int) int) []func(topStart int) int {
	return []func(int) int{
		func(int) int { return next(8) },
		func(int) int { return next(1000) },
		func(int) int { return 1<<next(61) - next(2) },
		func(int) int { return api.MaxTime - next(50) },
		func(topStart int) int { return min(topStart+next(60), api.MaxTime) },
		func(topStart int) int { return min(max(topStart-30+next(60), 0), api.MaxTime) },
		func(int) int { return next(2) * next(2) * (1<<50 + next(9)) * next(1<<9) },
		func(int) int { return next(2) * (1 << next(16)) },
	}
}

// step makes a call that next chooses.
func (h *history) step(t *testing.T, next func(int) int, spread func(int) int, appetite int) {
	t.Helper()
	thread := next(3)
	kind := next(12)
	switch {
	case kind < appetite:
		h.alloc(t, thread, spread(h.queue.TopStart))
	case kind < 7 && len(h.unput) > 0:
		h.put(thread, next(len(h.unput)))
	case kind == 7:
		h.peek(t, thread)
	case kind == 8:
		h.drop(thread)
	case kind == 9 && len(h.dropped) > 0:
		h.free(thread, next(len(h.dropped)))
	case kind == 10:
		h.swap(thread, next(len(h.slots)), api.Claimed+next(2))
	default:
		h.lock(thread, next(numMutexes))
	}
}

// drain puts, drops and frees all that is left.
func (h *history) drain(t *testing.T, thread int) {
	t.Helper()
	for len(h.unput) > 0 {
		h.put(thread, 0)
	}
	for len(h.queued) > 0 {
		h.peek(t, thread)
		h.drop(thread)
		h.check(t)
	}
	for len(h.dropped) > 0 {
		h.free(thread, 0)
	}
	h.peek(t, thread)
	h.check(t)
	for slot := range h.slots {
		if s := h.store.Arena().Slots[slot]; s != (api.Slot{Gen: s.Gen}) {
			t.Fatalf("slot %d is %v at the end", slot, s)
		}
	}
}

// P11.1, P11.3: long histories of several threads, which hold some of the mutexes some of the time, with times of all sizes, checked after every step.
func TestLongHistories(t *testing.T) {
	tally, deepest := map[string]int{}, 0
	for seed := range uint64(96) {
		next := numbers(seed)
		spread := spreads(next)[seed%8]
		h := begin(t, []int{1, 2, 7, 16, 33, 64}[seed/8%6])
		for n := range 900 {
			// Phases in which the store fills alternate with phases in which it empties.
			appetite := 4 - n/150%2*3
			h.step(t, next, spread, appetite)
			h.checkAccepts(t, next(3))
			h.check(t)
		}
		h.drain(t, 0)
		for what, n := range h.tally {
			tally[what] += n
		}
		deepest = max(deepest, h.deepest)
	}
	checkTally(t, tally)
	if deepest < api.MaxRungs {
		t.Errorf("there were at most %d rungs", deepest)
	}
}

// checkTally checks that the histories had all the cases that they are for.
func checkTally(t *testing.T, tally map[string]int) {
	t.Helper()
	for _, what := range []string{"no free slot", "a new TopStart", "put into Top", "put into a rung", "put into Bottom", "drop of nothing", "free of state 1", "free of state 2", "free of state 3"} {
		if tally[what] < 50 {
			t.Errorf("%s: only %d times", what, tally[what])
		}
	}
}

// P11.3: a store that is used for long, with insertions ever later.
func TestHoldModel(t *testing.T) {
	const capacity, steps = 64, 3000
	h, next := begin(t, capacity), numbers(5)
	for n := range steps {
		if n < capacity {
			h.alloc(t, 0, next(500))
			h.put(0, 0)
			continue
		}
		h.peek(t, 0)
		time := h.queued[h.least()].Time
		h.drop(0)
		h.free(0, 0)
		h.alloc(t, 0, time+next(300))
		h.put(0, 0)
		if n%7 == 0 {
			h.check(t)
		}
	}
	h.drain(t, 0)
	if h.next != steps || len(h.issued) != steps {
		t.Errorf("%d sequence numbers and %d handles, want %d", h.next, len(h.issued), steps)
	}
}
