package arena_test

import (
	"math"
	"slices"
	"testing"

	"ropeladder/api"
	"ropeladder/arena"
	"ropeladder/handle"
)

// The bounds of the chapter, as numbers of its own.
const (
	lastGen  = 1099511627776       // 2^40
	lastNext = 1099511627776       // 2^40
	lastTime = 1152921504606846976 // 2^60
)

var extremes = []int{math.MinInt, math.MinInt + 1, math.MinInt32, -1, 0, 1, math.MaxInt32, 1 << 32, lastTime, math.MaxInt - 1, math.MaxInt}

// badTimes are the least, the greatest and the nearest integers that are no times.
var badTimes = []int{math.MinInt, math.MinInt32, -2, -1, lastTime + 1, lastTime + 2, math.MaxInt - 1, math.MaxInt}

// states are all states, and integers that are none.
var states = []int{math.MinInt, -4, -1, api.Free, api.Pending, api.Claimed, api.Cancelled, 4, 5, 257, 1 << 32, math.MaxInt}

// sample returns a valid arena with a slot in every state, two free slots, and generations, times and sequence numbers that all differ.
func sample() api.Arena {
	return api.Arena{
		Slots: []api.Slot{
			{Gen: 2, State: api.Pending, Time: 70, Seq: 5},
			{Gen: 3, State: api.Free},
			{Gen: 0, State: api.Claimed, Time: 0, Seq: 0},
			{Gen: 7, State: api.Cancelled, Time: lastTime, Seq: 9},
			{Gen: 1, State: api.Free},
		},
		Idle: []int{4, 1},
		Next: 10,
	}
}

// worn returns a valid arena whose slots have reached, or are about to reach, the last generation.
func worn() api.Arena {
	return api.Arena{
		Slots: []api.Slot{
			{Gen: lastGen, State: api.Pending, Time: 1, Seq: 3},
			{Gen: lastGen - 1, State: api.Claimed, Time: 2, Seq: 4},
			{Gen: lastGen},
			{Gen: lastGen - 1},
		},
		Idle: []int{2, 3},
		Next: 5,
	}
}

func copyOf(a api.Arena) api.Arena {
	return api.Arena{Slots: slices.Clone(a.Slots), Idle: slices.Clone(a.Idle), Next: a.Next}
}

func equal(a api.Arena, b api.Arena) bool {
	return slices.Equal(a.Slots, b.Slots) && slices.Equal(a.Idle, b.Idle) && a.Next == b.Next
}

func mustNew(t *testing.T, capacity int) api.Arena {
	t.Helper()
	a, e := arena.New(capacity)
	if e != api.OK {
		t.Fatalf("New(%d) returned error %d", capacity, int(e))
	}
	return a
}

func mustAlloc(t *testing.T, a api.Arena, time int) (api.Arena, int) {
	t.Helper()
	b, h, e := arena.Alloc(a, time)
	if e != api.OK {
		t.Fatalf("Alloc(%v, %d) returned error %d", a, time, int(e))
	}
	return b, h
}

func mustRelease(t *testing.T, a api.Arena, h int) api.Arena {
	t.Helper()
	b, ok := arena.Release(a, h)
	if !ok {
		t.Fatalf("Release(%v, %d) returned false", a, h)
	}
	return b
}

// P5.1, E1: a new arena for each capacity that is allowed.
func TestNew(t *testing.T) {
	for capacity := 1; capacity <= 64; capacity++ {
		a := mustNew(t, capacity)
		if len(a.Slots) != capacity || len(a.Idle) != capacity || a.Next != 0 {
			t.Fatalf("New(%d) = %v", capacity, a)
		}
		for i := range capacity {
			if a.Slots[i] != (api.Slot{}) || a.Idle[i] != capacity-1-i {
				t.Errorf("New(%d) = %v", capacity, a)
			}
		}
		if !arena.Valid(a) || arena.Live(a) != 0 {
			t.Errorf("New(%d): Valid is %t and Live %d", capacity, arena.Valid(a), arena.Live(a))
		}
	}
}

// P5.1, E1: all other capacities are refused with the zero arena.
func TestNewRefused(t *testing.T) {
	for _, capacity := range []int{math.MinInt, math.MinInt32, -64, -2, -1, 0, 65, 66, 128, 256 + 1, 1<<32 + 1, lastTime, math.MaxInt} {
		a, e := arena.New(capacity)
		if e != api.ErrArgument || !equal(a, api.Arena{}) {
			t.Errorf("New(%d) = %v, %d", capacity, a, int(e))
		}
	}
}

// P5.1, E1: the number of live slots, whatever their state is.
func TestLive(t *testing.T) {
	cases := []struct {
		a    api.Arena
		live int
	}{
		{sample(), 3},
		{worn(), 2},
		{api.Arena{}, 0},
		{api.Arena{Slots: []api.Slot{{Gen: 4}}, Idle: []int{0}}, 0},
		{api.Arena{Slots: []api.Slot{{State: api.Pending}}, Next: 1}, 1},
		{api.Arena{Slots: []api.Slot{{State: api.Claimed}}, Next: 1}, 1},
		{api.Arena{Slots: []api.Slot{{State: api.Cancelled}}, Next: 1}, 1},
	}
	for _, c := range cases {
		if live := arena.Live(c.a); live != c.live {
			t.Errorf("Live(%v) = %d, want %d", c.a, live, c.live)
		}
	}
}

// P5.1: the examples of the chapter.
func TestExamples(t *testing.T) {
	a, h := mustAlloc(t, mustNew(t, 1), 5)
	if h != 0 {
		t.Errorf("the first handle is %d, want 0", h)
	}
	if b, k, e := arena.Alloc(a, 6); e != api.ErrFull || k != 0 || !equal(b, a) {
		t.Errorf("Alloc in a full arena = %v, %d, %d", b, k, int(e))
	}
	if _, k := mustAlloc(t, mustRelease(t, a, h), 6); k != 64 {
		t.Errorf("the handle after a release is %d, want 64", k)
	}
}

// P5.1, E2: the allocated slot is the last one of Idle, and all other slots stay as they are.
func TestAlloc(t *testing.T) {
	want := sample()
	want.Slots[1] = api.Slot{Gen: 3, State: api.Pending, Time: 40, Seq: 10}
	want.Idle = []int{4}
	want.Next = 11
	a, h := mustAlloc(t, sample(), 40)
	if !equal(a, want) || h != 3*64+1 {
		t.Errorf("Alloc = %v, %d, want %v, %d", a, h, want, 3*64+1)
	}
	want.Slots[4] = api.Slot{Gen: 1, State: api.Pending, Time: 40, Seq: 11}
	want.Idle = nil
	want.Next = 12
	b, k := mustAlloc(t, a, 40)
	if !equal(b, want) || k != 64+4 {
		t.Errorf("Alloc = %v, %d, want %v, %d", b, k, want, 64+4)
	}
	if arena.Live(b) != 5 {
		t.Errorf("Live is %d, want 5", arena.Live(b))
	}
}

// P5.1, E2: times at and next to the bounds.
func TestAllocTimes(t *testing.T) {
	for _, time := range []int{0, 1, math.MaxInt32, 1 << 32, lastTime - 1, lastTime} {
		a, h := mustAlloc(t, sample(), time)
		if s, ok := arena.Lookup(a, h); !ok || s.Time != time || !arena.Valid(a) {
			t.Errorf("an event at %d is kept as %v, %t", time, s, ok)
		}
	}
	for _, time := range badTimes {
		if a, h, e := arena.Alloc(sample(), time); e != api.ErrArgument || h != 0 || !equal(a, sample()) {
			t.Errorf("Alloc at %d = %v, %d, %d", time, a, h, int(e))
		}
	}
}

// P5.1, E2: a slot of the last generation can be allocated, and gets the greatest handle there is for it.
func TestAllocLastGeneration(t *testing.T) {
	a := worn()
	a.Idle = []int{3, 2}
	b, h := mustAlloc(t, a, 8)
	if want := 64*lastGen + 2; h != want || b.Slots[2] != (api.Slot{Gen: lastGen, State: api.Pending, Time: 8, Seq: 5}) {
		t.Errorf("Alloc = %v, %d, want handle %d", b, h, want)
	}
	if s, ok := arena.Lookup(b, h); !ok || s != b.Slots[2] {
		t.Errorf("Lookup(%d) = %v, %t", h, s, ok)
	}
}

// full returns a valid arena whose slots are all live.
func full() api.Arena {
	return api.Arena{Slots: []api.Slot{{Gen: 1, State: api.Cancelled, Time: 3, Seq: 1}, {State: api.Claimed, Time: 2}}, Next: 2}
}

// spent returns the sample with as many allocations before it as there can be.
func spent() api.Arena {
	a := sample()
	a.Next = lastNext
	return a
}

// P5.1, E2, and P5.4: Alloc fails for lack of slots or of sequence numbers; a bad time is the first error.
func TestAllocRefused(t *testing.T) {
	both := full()
	both.Next = lastNext
	for _, a := range []api.Arena{full(), spent(), both} {
		for _, time := range []int{0, 5, lastTime} {
			if b, h, e := arena.Alloc(a, time); e != api.ErrFull || h != 0 || !equal(b, a) {
				t.Errorf("Alloc(%v, %d) = %v, %d, %d", a, time, b, h, int(e))
			}
		}
		for _, time := range badTimes {
			if b, h, e := arena.Alloc(a, time); e != api.ErrArgument || h != 0 || !equal(b, a) {
				t.Errorf("Alloc(%v, %d) = %v, %d, %d", a, time, b, h, int(e))
			}
		}
	}
}

// P5.4: the last sequence number is issued, and then no other.
func TestAllocLastSequenceNumber(t *testing.T) {
	a := sample()
	a.Next = lastNext - 1
	b, h := mustAlloc(t, a, 1)
	if s, ok := arena.Lookup(b, h); !ok || s.Seq != lastNext-1 || b.Next != lastNext || !arena.Valid(b) {
		t.Errorf("the last allocation gives %v, %v, %t", b, s, ok)
	}
	if c, k, e := arena.Alloc(b, 1); e != api.ErrFull || k != 0 || !equal(c, b) {
		t.Errorf("one more allocation gives %v, %d, %d", c, k, int(e))
	}
	c := mustRelease(t, b, h)
	if d, k, e := arena.Alloc(c, 1); e != api.ErrFull || k != 0 || !equal(d, c) {
		t.Errorf("one more allocation after a release gives %v, %d, %d", d, k, int(e))
	}
}

// dangling returns handles and other integers that refer to no slot of the arena.
func dangling(a api.Arena) []int {
	hs := []int{
		math.MinInt, math.MinInt + 64, math.MinInt32, -129, -128, -65, -64, -63, -2, -1,
		64*lastGen + 64, 64*lastGen + 65, 128 * lastGen, 1 << 47, 1<<47 + 130, 1<<62 + 128, math.MaxInt - 63, math.MaxInt,
	}
	for slot := len(a.Slots); slot < 64; slot++ {
		hs = append(hs, handle.Make(slot, 0), handle.Make(slot, 2), handle.Make(slot, lastGen))
	}
	for slot, s := range a.Slots {
		for _, gen := range []int{0, 1, s.Gen - 1, s.Gen, s.Gen + 1, s.Gen + 64, s.Gen + 1<<31, s.Gen + 1<<32, lastGen - 1, lastGen} {
			if gen >= 0 && gen <= lastGen && (gen != s.Gen || s.State == api.Free) {
				hs = append(hs, handle.Make(slot, gen))
			}
		}
	}
	return hs
}

// P5.1, E3: Lookup returns the slot that the handle refers to, in any state but Free.
func TestLookup(t *testing.T) {
	for _, a := range []api.Arena{sample(), worn(), full(), spent()} {
		for i, s := range a.Slots {
			got, ok := arena.Lookup(a, handle.Make(i, s.Gen))
			if live := s.State != api.Free; ok != live || live && got != s || !live && got != (api.Slot{}) {
				t.Errorf("Lookup of slot %d of %v = %v, %t", i, a, got, ok)
			}
		}
	}
}

// P5.1, E3 and E4, and P5.3: operations with a handle that refers to no slot change nothing.
func TestDanglingHandles(t *testing.T) {
	for _, a := range []api.Arena{sample(), worn(), full(), spent(), mustNew(t, 1), mustNew(t, 64)} {
		for _, h := range dangling(a) {
			checkDangling(t, a, h)
		}
	}
}

func checkDangling(t *testing.T, a api.Arena, h int) {
	t.Helper()
	if s, ok := arena.Lookup(a, h); ok || s != (api.Slot{}) {
		t.Errorf("Lookup(%v, %d) = %v, %t", a, h, s, ok)
	}
	for from := api.Free; from <= api.Cancelled; from++ {
		for to := api.Free; to <= api.Cancelled; to++ {
			if b, ok := arena.Transition(a, h, from, to); ok || !equal(b, a) {
				t.Errorf("Transition(%v, %d, %d, %d) = %v, %t", a, h, from, to, b, ok)
			}
		}
	}
	if b, ok := arena.Release(a, h); ok || !equal(b, a) {
		t.Errorf("Release(%v, %d) = %v, %t", a, h, b, ok)
	}
}

// P5.1, E3: every from and to, for a slot in each state.
func TestTransition(t *testing.T) {
	a := sample()
	for i, s := range a.Slots {
		h := handle.Make(i, s.Gen)
		for _, from := range states {
			for _, to := range states {
				want := copyOf(a)
				moves := s.State != api.Free && s.State == from && (to == api.Pending || to == api.Claimed || to == api.Cancelled)
				if moves {
					want.Slots[i].State = to
				}
				if b, ok := arena.Transition(a, h, from, to); ok != moves || !equal(b, want) {
					t.Errorf("Transition of slot %d of %v from %d to %d = %v, %t", i, a, from, to, b, ok)
				}
			}
		}
	}
}

// P5.1, E4: each live slot is freed, whatever its state is, and becomes the next one to be allocated.
func TestRelease(t *testing.T) {
	a := sample()
	for i, s := range a.Slots {
		if s.State == api.Free {
			continue
		}
		want := copyOf(a)
		want.Slots[i] = api.Slot{Gen: s.Gen + 1}
		want.Idle = []int{4, 1, i}
		b, ok := arena.Release(a, handle.Make(i, s.Gen))
		if !ok || !equal(b, want) || arena.Live(b) != 2 {
			t.Errorf("Release of slot %d of %v = %v, %t", i, a, b, ok)
			continue
		}
		if _, h := mustAlloc(t, b, 1); h != handle.Make(i, s.Gen+1) {
			t.Errorf("after Release of slot %d: handle %d", i, h)
		}
		checkDangling(t, b, handle.Make(i, s.Gen))
	}
}

// P5.1, E4, and P5.3: a slot of the last generation cannot be released, and its handle goes on to refer to it.
func TestReleaseLastGeneration(t *testing.T) {
	a := worn()
	h := handle.Make(0, lastGen)
	if b, ok := arena.Release(a, h); ok || !equal(b, a) {
		t.Errorf("Release of the last generation = %v, %t", b, ok)
	}
	if s, ok := arena.Lookup(a, h); !ok || s != a.Slots[0] {
		t.Errorf("Lookup of the last generation = %v, %t", s, ok)
	}
	b := mustRelease(t, a, handle.Make(1, lastGen-1))
	if b.Slots[1] != (api.Slot{Gen: lastGen}) || !slices.Equal(b.Idle, []int{2, 3, 1}) || !arena.Valid(b) {
		t.Errorf("Release of the last generation but one = %v", b)
	}
	c, k := mustAlloc(t, b, 9)
	if d, ok := arena.Release(c, k); k != handle.Make(1, lastGen) || ok || !equal(d, c) {
		t.Errorf("Release(%v, %d) = %v, %t", c, k, d, ok)
	}
}
