package arena_test

import (
	"math"
	"testing"

	"ropeladder/api"
	"ropeladder/arena"
	"ropeladder/handle"
)

// marker is a number that no operation writes.
const marker = -777

// spacious returns the arena with spare capacity behind its slices, filled with marks that an append to them would overwrite.
func spacious(a api.Arena) api.Arena {
	slots := make([]api.Slot, 0, len(a.Slots)+3)
	slots = append(slots, a.Slots...)
	idle := make([]int, 0, len(a.Idle)+3)
	idle = append(idle, a.Idle...)
	b := api.Arena{Slots: slots, Idle: idle, Next: a.Next}
	for i := len(slots); i < cap(slots); i++ {
		slots[:cap(slots)][i] = api.Slot{Gen: marker}
	}
	for i := len(idle); i < cap(idle); i++ {
		idle[:cap(idle)][i] = marker
	}
	return b
}

// whole returns the arena with its slices extended to their capacities.
func whole(a api.Arena) api.Arena {
	return api.Arena{Slots: a.Slots[:cap(a.Slots)], Idle: a.Idle[:cap(a.Idle)], Next: a.Next}
}

// scribble overwrites all the memory that the arena can reach.
func scribble(a api.Arena) {
	a = whole(a)
	for i := range a.Slots {
		a.Slots[i] = api.Slot{Gen: marker - 1, State: marker - 1, Time: marker - 1, Seq: marker - 1}
	}
	for i := range a.Idle {
		a.Idle[i] = marker - 1
	}
}

// operation is a call that returns an arena, and whether it succeeds.
type operation struct {
	what  string
	call  func(a api.Arena) (api.Arena, bool)
	works bool
}

// operations returns operations on the sample: each function, with success and with each kind of failure.
func operations() []operation {
	alloc := func(time int) func(api.Arena) (api.Arena, bool) {
		return func(a api.Arena) (api.Arena, bool) {
			b, _, e := arena.Alloc(a, time)
			return b, e == api.OK
		}
	}
	transition := func(h int, from int, to int) func(api.Arena) (api.Arena, bool) {
		return func(a api.Arena) (api.Arena, bool) { return arena.Transition(a, h, from, to) }
	}
	release := func(h int) func(api.Arena) (api.Arena, bool) {
		return func(a api.Arena) (api.Arena, bool) { return arena.Release(a, h) }
	}
	live := handle.Make(0, 2)
	return []operation{
		{"Alloc", alloc(5), true},
		{"Alloc at a bad time", alloc(-1), false},
		{"Transition", transition(live, api.Pending, api.Claimed), true},
		{"Transition to the same state", transition(live, api.Pending, api.Pending), true},
		{"Transition from another state", transition(live, api.Claimed, api.Cancelled), false},
		{"Transition to Free", transition(live, api.Pending, api.Free), false},
		{"Transition of no slot", transition(handle.Make(0, 1), api.Pending, api.Claimed), false},
		{"Release", release(live), true},
		{"Release of no slot", release(handle.Make(1, 3)), false},
		{"Release of an invalid handle", release(-1), false},
	}
}

// checkMemory checks that the operation does not modify its argument, and that the argument and the result share no memory.
func checkMemory(t *testing.T, a api.Arena, o operation) {
	t.Helper()
	argument := spacious(a)
	before := copyOf(whole(argument))
	b, _ := o.call(argument)
	if !equal(whole(argument), before) {
		t.Errorf("%s changes its argument to %v, %v", o.what, argument, whole(argument))
	}
	result := copyOf(b)
	scribble(b)
	if !equal(whole(argument), before) {
		t.Errorf("a change of the result of %s changes its argument to %v", o.what, whole(argument))
	}
	c, _ := o.call(argument)
	scribble(argument)
	if !equal(c, result) {
		t.Errorf("a change of the argument of %s, or of an earlier result, changes its result to %v", o.what, c)
	}
}

// Rules: arguments are not modified, and results share no memory with them, whether the operation succeeds or not.
func TestMemory(t *testing.T) {
	for _, o := range operations() {
		if _, ok := o.call(sample()); ok != o.works {
			t.Errorf("%s: success is %t", o.what, ok)
		}
		for _, a := range []api.Arena{sample(), full(), spent(), worn(), mustNew(t, 1), mustNew(t, 64)} {
			checkMemory(t, a, o)
		}
	}
}

// Rules: the functions that return no arena do not modify their argument, either.
func TestReadersChangeNothing(t *testing.T) {
	for _, c := range append(sound(), flaws()...) {
		a := spacious(changed(c))
		before := copyOf(whole(a))
		arena.Valid(a)
		arena.Live(a)
		for slot := range 6 {
			for gen := range 8 {
				arena.Lookup(a, handle.Make(slot, gen))
			}
		}
		if !equal(whole(a), before) {
			t.Errorf("with %s, the arena is changed to %v", c.what, whole(a))
		}
	}
}

// P2: two new arenas share no memory, and a result depends on the arguments only, not on the calls before.
func TestIndependence(t *testing.T) {
	for _, capacity := range []int{1, 2, 64} {
		scribble(mustNew(t, capacity))
		if a := mustNew(t, capacity); !arena.Valid(a) || arena.Live(a) != 0 {
			t.Errorf("New(%d) = %v after another one was changed", capacity, a)
		}
	}
	for _, o := range operations() {
		b, ok := o.call(sample())
		for _, before := range operations() {
			before.call(sample())
			if c, again := o.call(sample()); again != ok || !equal(c, b) {
				t.Errorf("%s = %v, %t, and after %s %v, %t", o.what, b, ok, before.what, c, again)
			}
		}
	}
}

// P2: nil slices and empty ones give the same results.
func TestNilAndEmpty(t *testing.T) {
	a, b := full(), full()
	a.Idle, b.Idle = nil, []int{}
	c := mustRelease(t, a, handle.Make(1, 0))
	d := mustRelease(t, b, handle.Make(1, 0))
	if !equal(c, d) || arena.Valid(a) != arena.Valid(b) {
		t.Errorf("Release = %v or %v", c, d)
	}
	empty := api.Arena{Slots: []api.Slot{}, Idle: []int{}}
	if arena.Valid(empty) || arena.Valid(api.Arena{}) || arena.Live(empty) != 0 {
		t.Errorf("an arena without slots is valid")
	}
}

// broken returns arenas that are not valid: those with one flaw, and some with many.
func broken() []api.Arena {
	var as []api.Arena
	for _, c := range flaws() {
		as = append(as, changed(c))
	}
	for _, n := range extremes {
		as = append(as,
			api.Arena{Idle: []int{n}, Next: n},
			api.Arena{Slots: []api.Slot{{Gen: n, State: n, Time: n, Seq: n}}, Idle: []int{n}, Next: n},
			api.Arena{Slots: []api.Slot{{Gen: n, State: api.Pending, Time: n, Seq: n}}, Idle: []int{n, 0}, Next: -n},
			api.Arena{Slots: make([]api.Slot, 200), Idle: []int{0, 199, n}, Next: 1},
			api.Arena{Slots: []api.Slot{{State: n}, {Gen: 1, State: n}}, Idle: []int{0, 0, 0, n, 1}, Next: n},
		)
	}
	return as
}

// P1: for arenas that are not valid, and for all other arguments, every function returns and does not panic, and the Rules on memory hold.
func TestInvalidArenas(t *testing.T) {
	handles := append([]int{2, 3, 64, 65, 128, 130, 64*7 + 3, 64 * lastGen, 64*lastGen + 63, 64*lastGen + 64}, extremes...)
	for _, a := range broken() {
		if arena.Valid(a) != slowValid(a) {
			t.Errorf("Valid(%v) = %t", a, arena.Valid(a))
		}
		arena.Live(a)
		for _, time := range append(badTimes, extremes...) {
			arena.Alloc(a, time)
		}
		for _, h := range handles {
			arena.Lookup(a, h)
			arena.Release(a, h)
			for _, from := range states {
				for _, to := range states {
					arena.Transition(a, h, from, to)
				}
			}
		}
		for _, o := range operations() {
			checkMemory(t, a, o)
		}
	}
}

// P1: an Idle whose last index is of no slot gives an error and no handle.
func TestAllocOfNoSlot(t *testing.T) {
	for _, index := range []int{math.MinInt, -1, 5, 64, math.MaxInt} {
		a := sample()
		a.Idle = []int{4, 1, index}
		if b, h, e := arena.Alloc(a, 1); e == api.OK || h != 0 || !equal(b, a) {
			t.Errorf("Alloc of slot %d = %v, %d, %d", index, b, h, int(e))
		}
	}
}
