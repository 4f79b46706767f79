package insertop_test

import (
	"fmt"
	"slices"
	"strings"
	"testing"

	"ropeladder/api"
	"ropeladder/handle"
	"ropeladder/insertop"
	"ropeladder/store"
)

const (
	numMutexes = 4
	keeper     = 63 // the thread that prepares stores
	caller     = 7  // the thread of the calls that are tested
)

func insertion(time int) api.Call { return api.Call{Kind: api.CallInsert, Time: time} }

func mustNew(t *testing.T, capacity int) *store.Store {
	t.Helper()
	s := store.New(capacity)
	if s == nil {
		t.Fatalf("there is no store of %d slots", capacity)
	}
	return s
}

// exclusively runs work for a thread that holds all mutexes.
func exclusively(t *testing.T, s *store.Store, thread int, work func()) {
	t.Helper()
	for i := range numMutexes {
		if !s.Memory().TryLock(thread, i) {
			t.Fatalf("mutex %d is held by thread %d", i, s.Memory().Holder(i))
		}
	}
	work()
	for i := range numMutexes {
		s.Memory().Unlock(thread, i)
	}
}

// filled returns a store with events at these times, all of them put.
func filled(t *testing.T, capacity int, times ...int) *store.Store {
	t.Helper()
	s := mustNew(t, capacity)
	exclusively(t, s, keeper, func() {
		for _, time := range times {
			h, ok := s.Alloc(keeper, time)
			if !ok {
				t.Fatalf("no slot for time %d", time)
			}
			s.Put(keeper, handle.Slot(h))
		}
	})
	return s
}

// peeked returns a store with events at these times whose least one is in the bottom list.
func peeked(t *testing.T, capacity int, times ...int) *store.Store {
	t.Helper()
	s := filled(t, capacity, times...)
	exclusively(t, s, keeper, func() { s.Peek(keeper) })
	return s
}

// withRung returns a store whose TopStart is 101, with a rung whose Current is 57.
func withRung(t *testing.T, capacity int) *store.Store {
	t.Helper()
	return peeked(t, capacity, 100, 90, 80, 70, 60, 50)
}

// access describes an access of the caller.
func access(a api.Access) string {
	text := map[int]string{
		api.AccessLoad: "load", api.AccessStore: "store", api.AccessAdd: "add", api.AccessCAS: "swap", api.AccessLock: "lock", api.AccessUnlock: "unlock",
	}[a.Kind]
	text += fmt.Sprint(" ", a.Index)
	if !a.OK {
		text += " fails"
	}
	if a.Thread != caller {
		text += fmt.Sprint(" by ", a.Thread)
	}
	return text
}

// stepOf performs a step of the call and describes it: its accesses, and what the call says of it.
func stepOf(t *testing.T, s *store.Store, o *insertop.Op) string {
	t.Helper()
	before := len(s.Memory().Log())
	returned := o.Step()
	var parts []string
	for _, a := range s.Memory().Log()[before:] {
		parts = append(parts, access(a))
	}
	if o.Effect() {
		parts = append(parts, "effect")
	}
	if o.Blocked() {
		parts = append(parts, "blocked")
	}
	if returned {
		parts = append(parts, "return")
	}
	if r := o.Result(); !returned && !isZero(r) {
		t.Errorf("before the call returns, its result is %v", r)
	}
	return strings.Join(parts, ", ")
}

func isZero(r api.Result) bool {
	return r.Err == api.OK && r.Handle == 0 && !r.Cancelled && len(r.Events) == 0
}

func sameResult(a api.Result, b api.Result) bool {
	return a.Err == b.Err && a.Handle == b.Handle && a.Cancelled == b.Cancelled && slices.Equal(a.Events, b.Events)
}

// checkSteps performs as many steps as there are descriptions, and compares them.
func checkSteps(t *testing.T, s *store.Store, o *insertop.Op, want ...string) {
	t.Helper()
	for i, w := range want {
		if got := stepOf(t, s, o); got != w {
			t.Fatalf("step %d is %q, want %q", i+1, got, w)
		}
	}
}

func checkResult(t *testing.T, o *insertop.Op, want api.Result) {
	t.Helper()
	if r := o.Result(); !sameResult(r, want) {
		t.Errorf("the result is %v, want %v", r, want)
	}
}

// checkQuiet checks that nobody holds a mutex and that there were no violations.
func checkQuiet(t *testing.T, s *store.Store) {
	t.Helper()
	for i := range numMutexes {
		if h := s.Memory().Holder(i); h != -1 {
			t.Errorf("thread %d holds mutex %d", h, i)
		}
	}
	if v := s.Memory().Violations(); v != 0 {
		t.Errorf("%d violations", v)
	}
}

func times(s *store.Store) []int {
	var list []int
	for _, it := range s.Items() {
		list = append(list, it.Time)
	}
	return list
}

// The steps of insertions, in the words of access. A slot's word is stored by Alloc.
var (
	intoTop   = []string{"load 0", "lock 0", "load 0", "lock 3", "store 1, effect", "unlock 3", "unlock 0, return"}
	intoRung  = []string{"load 0", "lock 1", "", "lock 3", "store 7, effect", "unlock 3", "unlock 1, return"}
	intoLast  = []string{"load 0", "lock 1", "", "lock 2", "lock 3", "store 7, effect", "unlock 3", "unlock 2", "unlock 1, return"}
	fullTop   = []string{"load 0", "lock 0", "load 0", "lock 3", "effect", "unlock 3", "unlock 0, return"}
	fullRung  = []string{"load 0", "lock 1", "", "lock 3", "effect", "unlock 3", "unlock 1, return"}
	fullLast  = []string{"load 0", "lock 1", "", "lock 2", "lock 3", "effect", "unlock 3", "unlock 2", "unlock 1, return"}
	topOfRung = []string{"load 0", "lock 0", "load 0", "lock 3", "store 7, effect", "unlock 3", "unlock 0, return"}
)

// L2, and the example of the chapter.
func TestEmptyStore(t *testing.T) {
	for _, time := range []int{0, 1, 5, api.MaxTime - 1, api.MaxTime} {
		s := mustNew(t, 1)
		o := insertop.New(s, caller, insertion(time))
		checkSteps(t, s, o, intoTop...)
		checkResult(t, o, api.Result{Handle: 0})
		checkQuiet(t, s)
		if items := s.Items(); !slices.Equal(items, []api.Item{{Time: time}}) {
			t.Errorf("the items are %v", items)
		}
	}
}

// L1: New takes no step, and nothing has happened before the first one.
func TestNew(t *testing.T) {
	s := mustNew(t, 1)
	for _, time := range []int{-1, 5} {
		o := insertop.New(s, caller, insertion(time))
		if o == nil || o.Effect() || o.Blocked() || !isZero(o.Result()) {
			t.Fatalf("a new call is %v", o)
		}
	}
	if n := len(s.Memory().Log()); n != 0 {
		t.Errorf("New makes %d accesses", n)
	}
}

// L2, step 1: times that are not allowed, whoever holds the mutexes and even if no slot is free.
func TestBadTimes(t *testing.T) {
	held := filled(t, 1, 5)
	for i := range numMutexes {
		held.Memory().TryLock(keeper, i)
	}
	for _, s := range []*store.Store{mustNew(t, 2), filled(t, 1, 5), held, withRung(t, 6)} {
		before := fmt.Sprint(s.Arena(), s.Items())
		for _, time := range extremes {
			if time >= 0 && time <= api.MaxTime {
				continue
			}
			o := insertop.New(s, caller, insertion(time))
			checkSteps(t, s, o, "effect, return")
			checkResult(t, o, api.Result{Err: api.ErrArgument})
		}
		if after := fmt.Sprint(s.Arena(), s.Items()); after != before || s.Memory().Violations() != 0 {
			t.Errorf("the store was %s and is %s", before, after)
		}
	}
}

// L2: where times next to TopStart and next to the Current of the rung lead to.
func TestPaths(t *testing.T) {
	for _, c := range []struct {
		time int
		want []string
		full []string
	}{
		{0, intoLast, fullLast}, {49, intoLast, fullLast}, {50, intoLast, fullLast}, {56, intoLast, fullLast},
		{57, intoRung, fullRung}, {58, intoRung, fullRung}, {90, intoRung, fullRung}, {100, intoRung, fullRung},
		{101, topOfRung, fullTop}, {102, topOfRung, fullTop}, {api.MaxTime, topOfRung, fullTop},
	} {
		s := withRung(t, 7)
		o := insertop.New(s, caller, insertion(c.time))
		checkSteps(t, s, o, c.want...)
		checkResult(t, o, api.Result{Handle: 6})
		checkQuiet(t, s)
		want := []int{c.time, 50, 60, 70, 80, 90, 100}
		slices.Sort(want)
		if !slices.Equal(times(s), want) || !slices.Contains(s.Items(), api.Item{Time: c.time, Seq: 6, Slot: 6}) {
			t.Errorf("after the insertion of %d, the items are %v", c.time, s.Items())
		}

		s = withRung(t, 6)
		before := fmt.Sprint(s.Arena(), s.Items())
		o = insertop.New(s, caller, insertion(c.time))
		checkSteps(t, s, o, c.full...)
		checkResult(t, o, api.Result{Err: api.ErrFull})
		checkQuiet(t, s)
		if after := fmt.Sprint(s.Arena(), s.Items()); after != before {
			t.Errorf("a failed insertion of %d turns %s into %s", c.time, before, after)
		}
	}
}

// L2, step 5: without rungs, no rung accepts the time.
func TestNoRungs(t *testing.T) {
	s := peeked(t, 7, 30, 20, 10)
	for _, time := range []int{30, 5, 0} {
		o := insertop.New(s, caller, insertion(time))
		slot := len(s.Items())
		word := fmt.Sprint("store ", api.WordSlots+slot, ", effect")
		checkSteps(t, s, o, "load 0", "lock 1", "", "lock 2", "lock 3", word, "unlock 3", "unlock 2", "unlock 1, return")
		checkResult(t, o, api.Result{Handle: slot})
	}
	if !slices.Equal(times(s), []int{0, 5, 10, 20, 30, 30}) {
		t.Errorf("the items are %v", s.Items())
	}
	checkQuiet(t, s)
}

// L2: the handle is that of the freed slot's next generation.
func TestHandleOfAFreedSlot(t *testing.T) {
	s := peeked(t, 2, 8)
	exclusively(t, s, keeper, func() {
		s.Drop(keeper)
		s.Free(keeper, 0)
	})
	o := insertop.New(s, caller, insertion(9))
	checkSteps(t, s, o, intoTop...)
	checkResult(t, o, api.Result{Handle: 64})
	o = insertop.New(s, caller, insertion(9))
	checkSteps(t, s, o, "load 0", "lock 0", "load 0", "lock 3", "store 2, effect", "unlock 3", "unlock 0, return")
	checkResult(t, o, api.Result{Handle: 1})
	if items := s.Items(); !slices.Equal(items, []api.Item{{Time: 9, Seq: 1, Slot: 0}, {Time: 9, Seq: 2, Slot: 1}}) {
		t.Errorf("the items are %v", items)
	}
}

// L2, steps 3 and 3a: the top list moves on after the time was first compared with it.
func TestTopMovesOn(t *testing.T) {
	for _, c := range []struct {
		time int
		want []string
	}{
		{4, []string{"lock 0", "load 0", "unlock 0", "lock 1", "", "lock 2", "lock 3", "store 2, effect", "unlock 3", "unlock 2", "unlock 1, return"}},
		{5, []string{"lock 0", "load 0", "unlock 0", "lock 1", "", "lock 2", "lock 3", "store 2, effect", "unlock 3", "unlock 2", "unlock 1, return"}},
		{6, []string{"lock 0", "load 0", "lock 3", "store 2, effect", "unlock 3", "unlock 0, return"}},
	} {
		s := filled(t, 2, 5)
		o := insertop.New(s, caller, insertion(c.time))
		checkSteps(t, s, o, "load 0")
		exclusively(t, s, keeper, func() { s.Peek(keeper) })
		checkSteps(t, s, o, c.want...)
		checkResult(t, o, api.Result{Handle: 1})
		checkQuiet(t, s)
	}
}

// L2, step 3a: a rung may accept the time, and no slot may be free.
func TestTopMovesOnToARung(t *testing.T) {
	for _, capacity := range []int{6, 7} {
		s := filled(t, capacity, 100, 90, 80, 70, 60, 50)
		o := insertop.New(s, caller, insertion(95))
		checkSteps(t, s, o, "load 0")
		exclusively(t, s, keeper, func() { s.Peek(keeper) })
		path := append([]string{"lock 0", "load 0", "unlock 0"}, intoRung[1:]...)
		want := api.Result{Handle: 6}
		if capacity == 6 {
			path = append([]string{"lock 0", "load 0", "unlock 0"}, fullRung[1:]...)
			want = api.Result{Err: api.ErrFull}
		}
		checkSteps(t, s, o, path...)
		checkResult(t, o, want)
		checkQuiet(t, s)
	}
}

// L2, steps 1 and 4: once a time was below TopStart, it is not compared with it again, as TopStart does not decrease; and the answer of Accepts is that of the time of step 5.
func TestRungsMoveOn(t *testing.T) {
	s := withRung(t, 7)
	o := insertop.New(s, caller, insertion(60))
	checkSteps(t, s, o, "load 0")
	exclusively(t, s, keeper, func() {
		s.Drop(keeper)
		s.Peek(keeper)
	})
	checkSteps(t, s, o, intoLast[1:]...)
	checkQuiet(t, s)
	if !slices.Equal(times(s), []int{60, 60, 70, 80, 90, 100}) {
		t.Errorf("the items are %v", s.Items())
	}
}

// L2: each mutex blocks the step that tries to acquire it for as long as another thread holds it, and no other step.
func TestBlocked(t *testing.T) {
	for _, c := range []struct {
		time int
		path []string
	}{{200, topOfRung}, {60, intoRung}, {10, intoLast}} {
		for mutex := range numMutexes {
			for at := range c.path {
				checkBlocked(t, c.time, c.path, mutex, at)
			}
		}
	}
}

// checkBlocked makes another thread hold the mutex from step at on, until the call has been blocked some times or cannot be.
func checkBlocked(t *testing.T, time int, path []string, mutex int, at int) {
	t.Helper()
	s := withRung(t, 7)
	o := insertop.New(s, caller, insertion(time))
	checkSteps(t, s, o, path[:at]...)
	if !s.Memory().TryLock(keeper, mutex) {
		return
	}
	wait := slices.Index(path, fmt.Sprint("lock ", mutex))
	if wait < at {
		wait = len(path)
	}
	checkSteps(t, s, o, path[at:wait]...)
	if wait < len(path) {
		failure := fmt.Sprint("lock ", mutex, " fails, blocked")
		checkSteps(t, s, o, failure, failure, failure)
	}
	s.Memory().Unlock(keeper, mutex)
	checkSteps(t, s, o, path[wait:]...)
	checkResult(t, o, api.Result{Handle: 6})
	checkQuiet(t, s)
}

// L2, step 10: the item is queued in the step in which the first mutex of the lists is released, no earlier and no later.
func TestWhenTheItemIsQueued(t *testing.T) {
	for _, c := range []struct {
		time  int
		path  []string
		first string
	}{{200, topOfRung, "unlock 0, return"}, {60, intoRung, "unlock 1, return"}, {10, intoLast, "unlock 2"}} {
		s := withRung(t, 7)
		o := insertop.New(s, caller, insertion(c.time))
		queued := 6
		for _, w := range c.path {
			if w == c.first {
				queued = 7
			}
			checkSteps(t, s, o, w)
			if n := len(s.Items()); n != queued {
				t.Errorf("time %d: %d items after %q, want %d", c.time, n, w, queued)
			}
		}
	}
}

// L2: a call goes by the Time of its api.Call and by no other field.
func TestOtherFields(t *testing.T) {
	s := mustNew(t, 2)
	o := insertop.New(s, caller, api.Call{Kind: api.CallInsert, Time: 5, Handle: -1, Max: 99, Bound: -7})
	checkSteps(t, s, o, intoTop...)
	checkResult(t, o, api.Result{Handle: 0})
}

// L2: the accesses are those of the call's thread, of whatever number.
func TestThreads(t *testing.T) {
	for _, thread := range []int{0, 1, 63, 1000} {
		s := mustNew(t, 1)
		o := insertop.New(s, thread, insertion(5))
		for !o.Step() {
		}
		want := []api.Access{
			{Thread: thread, Kind: api.AccessLoad, Index: api.WordTopStart, OK: true},
			{Thread: thread, Kind: api.AccessLock, Index: api.MutexTop, New: 1, OK: true},
			{Thread: thread, Kind: api.AccessLoad, Index: api.WordTopStart, OK: true},
			{Thread: thread, Kind: api.AccessLock, Index: api.MutexArena, New: 1, OK: true},
			{Thread: thread, Kind: api.AccessStore, Index: api.WordSlots, New: handle.Word(0, api.Pending), OK: true},
			{Thread: thread, Kind: api.AccessUnlock, Index: api.MutexArena, Old: 1, OK: true},
			{Thread: thread, Kind: api.AccessUnlock, Index: api.MutexTop, Old: 1, OK: true},
		}
		if log := s.Memory().Log(); !slices.Equal(log, want) {
			t.Errorf("the accesses of thread %d are %v", thread, log)
		}
		checkQuiet(t, s)
	}
}
