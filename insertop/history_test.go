package insertop_test

import (
	"fmt"
	"slices"
	"testing"

	"ropeladder/api"
	"ropeladder/handle"
	"ropeladder/insertop"
	"ropeladder/store"
)

// reading is an insertion by a literal reading of L2, on a store of its own.
type reading struct {
	s       *store.Store
	thread  int
	time    int
	at      string // the name of the next step in L2
	holds   [numMutexes]bool
	handle  int
	ok      bool // whether Alloc succeeded
	put     bool // whether Put has been called
	result  api.Result
	effect  bool
	blocked bool
}

func (r *reading) loadedTop() bool {
	return r.time >= r.s.Memory().Load(r.thread, api.WordTopStart)
}

func (r *reading) try(mutex int, then string) {
	if r.s.Memory().TryLock(r.thread, mutex) {
		r.holds[mutex] = true
		r.at = then
	} else {
		r.blocked = true
	}
}

func (r *reading) unlock(mutex int) {
	r.s.Memory().Unlock(r.thread, mutex)
	r.holds[mutex] = false
}

// choose makes step a follow if ok is true, and step b otherwise.
func (r *reading) choose(ok bool, a string, b string) {
	r.at = b
	if ok {
		r.at = a
	}
}

// step performs the next step and reports whether the call returns in it.
func (r *reading) step() bool {
	r.effect, r.blocked = false, false
	switch r.at {
	case "1":
		if r.time < 0 || r.time > 1<<60 {
			r.effect = true
			r.result.Err = api.ErrArgument
			return true
		}
		r.choose(r.loadedTop(), "2", "4")
	case "2":
		r.try(api.MutexTop, "3")
	case "3":
		r.choose(r.loadedTop(), "7", "3a")
	case "3a":
		r.unlock(api.MutexTop)
		r.at = "4"
	case "4":
		r.try(api.MutexRungs, "5")
	case "5":
		r.choose(r.s.Accepts(r.thread, r.time), "7", "6")
	case "6":
		r.try(api.MutexBottom, "7")
	case "7":
		r.try(api.MutexArena, "8")
	case "8":
		r.handle, r.ok = r.s.Alloc(r.thread, r.time)
		r.effect = true
		r.at = "9"
	case "9":
		r.unlock(api.MutexArena)
		r.at = "10"
	case "10":
		return r.conclude()
	}
	return false
}

// conclude performs one of the steps that L2 numbers 10.
func (r *reading) conclude() bool {
	if r.ok && !r.put {
		r.s.Put(r.thread, handle.Slot(r.handle))
		r.put = true
	}
	for _, mutex := range []int{api.MutexBottom, api.MutexRungs, api.MutexTop} {
		if r.holds[mutex] {
			r.unlock(mutex)
			break
		}
	}
	if r.holds != [numMutexes]bool{} {
		return false
	}
	if r.ok {
		r.result.Handle = r.handle
	} else {
		r.result.Err = api.ErrFull
	}
	return true
}

// extraction is a thread that acquires all mutexes, takes events out of a store, and releases the mutexes, one step at a time.
type extraction struct {
	s      *store.Store
	thread int
	count  int
	at     int
}

func (e *extraction) step() bool {
	m := e.s.Memory()
	switch {
	case e.at < numMutexes:
		if !m.TryLock(e.thread, e.at) {
			return false
		}
	case e.at < numMutexes+e.count:
		if it, ok := e.s.Peek(e.thread); ok && e.at%3 > 0 {
			e.s.Drop(e.thread)
			e.s.Free(e.thread, it.Slot)
		}
	default:
		m.Unlock(e.thread, 2*numMutexes+e.count-1-e.at)
	}
	e.at++
	return e.at == 2*numMutexes+e.count
}

// member is a thread of a crowd with its running call, if it has one.
type member struct {
	call    *insertop.Op
	reading *reading
	effects int
	batch   *extraction
	mirror  *extraction
}

// crowd is a store that several threads use, and a twin of it on which the same steps are those of a literal reading.
type crowd struct {
	store   *store.Store
	twin    *store.Store
	members []*member
	tally   map[string]int // how often which case occurred
}

func newCrowd(t *testing.T, capacity int, threads int) *crowd {
	t.Helper()
	return crowdOn(func() *store.Store { return mustNew(t, capacity) }, threads)
}

func crowdOn(start func() *store.Store, threads int) *crowd {
	c := &crowd{store: start(), twin: start(), tally: map[string]int{}}
	for range threads {
		c.members = append(c.members, &member{})
	}
	return c
}

func (c *crowd) insert(thread int, time int) {
	c.members[thread] = &member{
		call:    insertop.New(c.store, thread, insertion(time)),
		reading: &reading{s: c.twin, thread: thread, time: time, at: "1"},
	}
}

func (c *crowd) extract(thread int, count int) {
	c.members[thread] = &member{
		batch:  &extraction{s: c.store, thread: thread, count: count},
		mirror: &extraction{s: c.twin, thread: thread, count: count},
	}
}

// cancel cancels the event in a slot, if it is pending.
func (c *crowd) cancel(thread int, slot int) {
	for _, s := range []*store.Store{c.store, c.twin} {
		a := s.Arena().Slots[slot]
		s.Memory().CompareAndSwap(thread, api.WordSlots+slot, handle.Word(a.Gen, api.Pending), handle.Word(a.Gen, api.Cancelled))
	}
}

// running reports whether the thread has a running call.
func (c *crowd) running(thread int) bool {
	m := c.members[thread]
	return m.call != nil || m.batch != nil
}

// advance makes a thread with a running call take a step.
func (c *crowd) advance(t *testing.T, thread int) {
	t.Helper()
	m := c.members[thread]
	if m.batch != nil {
		m.mirror.step()
		if m.batch.step() {
			c.members[thread] = &member{}
		}
		return
	}
	before := c.store.Arena()
	c.tally["step "+m.reading.at]++
	want := m.reading.step()
	if got := m.call.Step(); got != want || m.call.Effect() != m.reading.effect || m.call.Blocked() != m.reading.blocked {
		t.Fatalf("thread %d: the step before step %q: Step() = %t, Effect() = %t, Blocked() = %t, want %t, %t, %t",
			thread, m.reading.at, got, m.call.Effect(), m.call.Blocked(), want, m.reading.effect, m.reading.blocked)
	}
	if r := m.call.Result(); want && !sameResult(r, m.reading.result) || !want && !isZero(r) {
		t.Fatalf("thread %d: the result is %v, want %v; returned: %t", thread, r, m.reading.result, want)
	}
	if m.call.Blocked() {
		c.tally["blocked"]++
	}
	c.checkEffect(t, m, before)
	if want {
		c.checkReturn(t, thread)
	}
}

// checkEffect checks that a call changes the arena in the step in which it takes effect, and in no other one.
func (c *crowd) checkEffect(t *testing.T, m *member, before api.Arena) {
	t.Helper()
	grown := c.store.Arena().Next - before.Next
	full := len(before.Idle) == 0
	bad := m.reading.result.Err == api.ErrArgument
	switch {
	case !m.call.Effect() && grown == 0:
	case m.call.Effect() && grown == 1 && !full && !bad:
		m.effects++
	case m.call.Effect() && grown == 0 && (full || bad):
		m.effects++
	default:
		t.Fatalf("Effect() = %t in a step with %d allocations of %d free slots", m.call.Effect(), grown, len(before.Idle))
	}
}

// checkReturn checks what must hold when the thread's call returns, and ends the call.
func (c *crowd) checkReturn(t *testing.T, thread int) {
	t.Helper()
	m := c.members[thread]
	if m.effects != 1 {
		t.Fatalf("a call took effect %d times", m.effects)
	}
	for i := range numMutexes {
		if c.store.Memory().Holder(i) == thread {
			t.Fatalf("a call returns with mutex %d", i)
		}
	}
	c.tally[m.call.Result().Err.Error()]++
	c.members[thread] = &member{}
}

// step makes a thread that next chooses start a call or take a step of the one that runs.
func (c *crowd) step(t *testing.T, next func(int) int) {
	t.Helper()
	thread := next(len(c.members))
	if !c.running(thread) {
		switch next(7) {
		case 0, 1:
			c.extract(thread, next(8))
		case 2:
			c.cancel(thread, next(c.store.Capacity()))
			return
		default:
			c.insert(thread, c.someTime(next))
		}
	}
	c.advance(t, thread)
}

// someTime returns a time that next chooses, often one near TopStart.
func (c *crowd) someTime(next func(int) int) int {
	top := c.store.Memory().Word(api.WordTopStart)
	switch next(8) {
	case 0:
		return extremes[next(len(extremes))]
	case 1:
		return next(50)
	case 2:
		return top + next(1000)
	case 3:
		return next(top + 1)
	default:
		return top - 40 + next(80)
	}
}

// finish lets all threads take turns until their calls have returned.
func (c *crowd) finish(t *testing.T) {
	t.Helper()
	for round := range 100 {
		busy := false
		for thread := range c.members {
			if c.running(thread) {
				busy = true
				c.advance(t, thread)
			}
		}
		if !busy {
			return
		}
		if round == 99 {
			t.Fatal("the calls do not end")
		}
	}
}

// check compares the store with its twin.
func (c *crowd) check(t *testing.T) {
	t.Helper()
	if got, want := c.store.Memory().Log(), c.twin.Memory().Log(); !slices.Equal(got, want) {
		t.Fatalf("the log has %d accesses, want %d; it ends with %v, want %v", len(got), len(want), tail(got), tail(want))
	}
	if got, want := fmt.Sprint(c.store.Arena(), c.store.Items()), fmt.Sprint(c.twin.Arena(), c.twin.Items()); got != want {
		t.Fatalf("the store is %s, want %s", got, want)
	}
	if v := c.store.Memory().Violations(); v != 0 {
		t.Fatalf("%d violations", v)
	}
}

func tail(log []api.Access) []api.Access { return log[max(0, len(log)-3):] }

// checkOrder checks that every thread acquires mutexes in increasing order only.
func checkOrder(t *testing.T, log []api.Access) {
	t.Helper()
	held := map[int][]int{}
	for _, a := range log {
		switch {
		case a.Kind == api.AccessLock && len(held[a.Thread]) > 0 && slices.Max(held[a.Thread]) >= a.Index:
			t.Fatalf("thread %d holds %v and tries to acquire mutex %d", a.Thread, held[a.Thread], a.Index)
		case a.Kind == api.AccessLock && a.OK:
			held[a.Thread] = append(held[a.Thread], a.Index)
		case a.Kind == api.AccessUnlock:
			held[a.Thread] = slices.DeleteFunc(held[a.Thread], func(i int) bool { return i == a.Index })
		}
	}
}

// numbers returns a generator of pseudo-random numbers below its argument, the same ones for the same seed.
func numbers(seed uint64) func(n int) int {
	state := seed*2654435761 + 1
	return func(n int) int {
		state = state*6364136223846793005 + 1442695040888963407
		return int(state>>33) % n
	}
}

// scene is a store and the running calls of a crowd on it.
type scene struct {
	what    string
	start   func() *store.Store
	inserts []int // the times of the insertions
	extract int   // how many items an extraction takes out, or 0 if there is none
}

func (s scene) crowd() *crowd {
	threads := len(s.inserts)
	if s.extract > 0 {
		threads++
	}
	c := crowdOn(s.start, threads)
	for thread, time := range s.inserts {
		c.insert(thread, time)
	}
	if s.extract > 0 {
		c.extract(threads-1, s.extract)
	}
	return c
}

// runAll performs the calls of the scene once for each sequence of so many picks, and then in turns until they have returned.
func (s scene) runAll(t *testing.T, picks int) {
	t.Helper()
	threads := len(s.crowd().members)
	codes := 1
	for range picks {
		codes *= threads
	}
	for code := range codes {
		c := s.crowd()
		for n, rest := 0, code; n < picks; n, rest = n+1, rest/threads {
			if c.running(rest % threads) {
				c.advance(t, rest%threads)
			}
		}
		c.finish(t)
		c.check(t)
		if t.Failed() {
			t.Fatalf("%s, schedule %d", s.what, code)
		}
	}
}

// P12.1, P12.2, P12.3: all ways in which two or three calls meet.
func TestAllShortSchedules(t *testing.T) {
	empty := func(capacity int) func() *store.Store { return func() *store.Store { return mustNew(t, capacity) } }
	sorted := func() *store.Store { return peeked(t, 4, 30, 20) }
	unsorted := func() *store.Store { return filled(t, 8, 100, 90, 80, 70, 60, 50) }
	rung := func() *store.Store { return withRung(t, 8) }
	for _, s := range []scene{
		{"two into an empty store", empty(2), []int{5, 5}, 0},
		{"two for one slot", empty(1), []int{5, 3}, 0},
		{"one valid and one invalid", empty(1), []int{5, -1}, 0},
		{"one into Bottom, one into Top", sorted, []int{30, 31}, 0},
		{"two into a rung", rung, []int{60, 99}, 0},
		{"one into a rung, one into Bottom", rung, []int{60, 1}, 0},
		{"one while items are taken out", unsorted, []int{100}, 1},
		{"one into a rung while items are taken out", rung, []int{61}, 2},
	} {
		s.runAll(t, 13)
	}
	for _, s := range []scene{
		{"three into an empty store", empty(2), []int{5, 5, 7}, 0},
		{"two while items are taken out", unsorted, []int{95, 101}, 1},
		{"two at all places while items are taken out", rung, []int{60, 10}, 2},
	} {
		s.runAll(t, 8)
	}
}

// P12.1, P12.2, P12.3: long histories of several threads that insert, extract and cancel.
func TestLongHistories(t *testing.T) {
	tally := map[string]int{}
	for seed := range uint64(120) {
		next := numbers(seed)
		c := newCrowd(t, []int{1, 2, 7, 16, 33, 64}[seed%6], 1+int(seed)%5)
		for n := range 700 {
			c.step(t, next)
			if n%20 == 0 {
				c.check(t)
			}
		}
		c.finish(t)
		c.check(t)
		checkQuiet(t, c.store)
		checkOrder(t, c.store.Memory().Log())
		for what, n := range c.tally {
			tally[what] += n
		}
	}
	for _, what := range []string{
		"step 1", "step 2", "step 3", "step 3a", "step 4", "step 5", "step 6", "step 7", "step 8", "step 9", "step 10",
		"blocked", api.OK.Error(), api.ErrArgument.Error(), api.ErrFull.Error(),
	} {
		if tally[what] < 100 {
			t.Errorf("%s: only %d times", what, tally[what])
		}
	}
}

// P12.4: a call that runs alone, in stores of all kinds.
func TestAlone(t *testing.T) {
	longest := 0
	for seed := range uint64(150) {
		next := numbers(seed)
		c := newCrowd(t, 1+next(64), 3)
		for range 40 {
			for range next(60) {
				c.step(t, next)
			}
			c.finish(t)
			longest = max(longest, c.alone(t, c.someTime(next)))
		}
	}
	if longest != 9 {
		t.Errorf("the longest call takes %d steps, want 9", longest)
	}
}

// alone makes an insertion while no other call runs, and returns the number of its steps.
func (c *crowd) alone(t *testing.T, time int) int {
	t.Helper()
	want, arena := c.store.Items(), c.store.Arena()
	c.insert(0, time)
	o := c.members[0].call
	steps := 0
	for c.running(0) {
		c.advance(t, 0)
		steps++
		if o.Blocked() || steps > 10 {
			t.Fatalf("step %d of a call that runs alone: blocked or too late", steps)
		}
	}
	if free := len(arena.Idle); free > 0 && time >= 0 && time <= api.MaxTime {
		// At equal times the new item is the last one, as its Seq is greater than all others.
		at := 0
		for at < len(want) && want[at].Time <= time {
			at++
		}
		want = slices.Insert(want, at, api.Item{Time: time, Seq: arena.Next, Slot: arena.Idle[free-1]})
	}
	if items := c.store.Items(); !slices.Equal(items, want) {
		t.Fatalf("after the insertion of %d, the items are %v, want %v", time, items, want)
	}
	return steps
}
