package handle_test

import (
	"math"
	"testing"

	"ropeladder/api"
	"ropeladder/handle"
)

// The bounds of the chapter, as numbers of its own.
const (
	lastGen    = 1099511627776  // 2^40
	lastHandle = 70368744177727 // 64*2^40 + 63
)

// gens are generations in increasing order: the least and the greatest ones, and those around the limits of narrower integers and around the powers of two at which a field could be cut off.
var gens = []int{
	0, 1, 2, 3, 4, 5, 15, 16, 17, 63, 64, 65, 1000003,
	1<<24 - 1, 1 << 24, 1<<25 - 1, 1 << 25, 1<<26 - 1, 1 << 26, 1<<29 - 1, 1 << 29, 1<<30 - 1, 1 << 30,
	math.MaxInt32 - 1, math.MaxInt32, math.MaxInt32 + 1, math.MaxUint32, math.MaxUint32 + 1,
	lastGen/2 - 1, lastGen / 2, lastGen/2 + 1, lastGen - 2, lastGen - 1, lastGen,
}

// notHandles are integers outside of 0..64*2^40+63, among them those whose lower bits could pass for a handle.
var notHandles = []int{
	math.MinInt, math.MinInt + 1, math.MinInt + 64, math.MinInt32, -lastHandle - 1, -lastHandle, -129, -128, -65, -64, -63, -2, -1,
	lastHandle + 1, lastHandle + 2, lastHandle + 64, 2 * lastHandle, 1<<47 + 5, 1<<60 + 5, math.MaxInt - 63, math.MaxInt - 1, math.MaxInt,
}

// P4.1, D1: the chapter's example, ordinary words, and the least and the greatest ones.
func TestWordCases(t *testing.T) {
	cases := []struct{ gen, state, word int }{
		{3, api.Pending, 13},
		{2, api.Claimed, 10},
		{0, api.Free, 0},
		{0, api.Pending, 1},
		{0, api.Claimed, 2},
		{0, api.Cancelled, 3},
		{1, api.Free, 4},
		{1, api.Cancelled, 7},
		{1000, api.Cancelled, 4003},
		{math.MaxUint32, api.Pending, 17179869181},
		{lastGen - 1, api.Cancelled, 4398046511103},
		{lastGen, api.Free, 4398046511104},
		{lastGen, api.Pending, 4398046511105},
		{lastGen, api.Claimed, 4398046511106},
		{lastGen, api.Cancelled, 4398046511107},
	}
	for _, c := range cases {
		if w := handle.Word(c.gen, c.state); w != c.word {
			t.Errorf("Word(%d, %d) = %d, want %d", c.gen, c.state, w, c.word)
		}
		if g := handle.Gen(c.word); g != c.gen {
			t.Errorf("Gen(%d) = %d, want %d", c.word, g, c.gen)
		}
		if s := handle.State(c.word); s != c.state {
			t.Errorf("State(%d) = %d, want %d", c.word, s, c.state)
		}
	}
}

// P4.1, D2: the examples of the document, ordinary handles, and the least and the greatest ones.
func TestMakeCases(t *testing.T) {
	cases := []struct{ slot, gen, h int }{
		{5, 2, 133},
		{3, 2, 131},
		{0, 0, 0},
		{1, 0, 1},
		{62, 0, 62},
		{63, 0, 63},
		{0, 1, 64},
		{63, 1, 127},
		{0, 2, 128},
		{17, 1000, 64017},
		{63, math.MaxUint32, 274877906943},
		{63, lastGen - 1, 70368744177663},
		{0, lastGen, 70368744177664},
		{1, lastGen, 70368744177665},
		{62, lastGen, 70368744177726},
		{63, lastGen, lastHandle},
	}
	for _, c := range cases {
		if h := handle.Make(c.slot, c.gen); h != c.h {
			t.Errorf("Make(%d, %d) = %d, want %d", c.slot, c.gen, h, c.h)
		}
		if !handle.Valid(c.h) {
			t.Errorf("Valid(%d) is false", c.h)
		}
		if s := handle.Slot(c.h); s != c.slot {
			t.Errorf("Slot(%d) = %d, want %d", c.h, s, c.slot)
		}
		if g := handle.Generation(c.h); g != c.gen {
			t.Errorf("Generation(%d) = %d, want %d", c.h, g, c.gen)
		}
	}
}

// P4.1, D2: Valid, Slot and Generation for integers that are no handles.
func TestNotHandles(t *testing.T) {
	for _, h := range notHandles {
		checkNotHandle(t, h)
	}
	for distance := 1; distance <= 1000; distance++ {
		checkNotHandle(t, -distance)
		checkNotHandle(t, lastHandle+distance)
	}
	for bit := 47; bit < 63; bit++ {
		checkNotHandle(t, 1<<bit)
		checkNotHandle(t, 1<<bit+handle.Make(5, 2))
	}
}

func checkNotHandle(t *testing.T, h int) {
	t.Helper()
	if handle.Valid(h) {
		t.Errorf("Valid(%d) is true", h)
	}
	if s := handle.Slot(h); s != -1 {
		t.Errorf("Slot(%d) = %d, want -1", h, s)
	}
	if g := handle.Generation(h); g != -1 {
		t.Errorf("Generation(%d) = %d, want -1", h, g)
	}
}

// P4.2: a generation and a state, packed and unpacked, are the same again.
func TestWordRoundTrip(t *testing.T) {
	for _, gen := range gens {
		for state := api.Free; state <= api.Cancelled; state++ {
			w := handle.Word(gen, state)
			if handle.Gen(w) != gen || handle.State(w) != state {
				t.Errorf("Word(%d, %d) = %d has the generation %d and the state %d", gen, state, w, handle.Gen(w), handle.State(w))
			}
		}
	}
}

// P4.2: a slot and a generation, packed and unpacked, are the same again.
func TestHandleRoundTrip(t *testing.T) {
	for _, gen := range gens {
		for slot := 0; slot < api.MaxSlots; slot++ {
			h := handle.Make(slot, gen)
			if !handle.Valid(h) || handle.Slot(h) != slot || handle.Generation(h) != gen {
				t.Errorf("Make(%d, %d) = %d has the slot %d and the generation %d, Valid is %t", slot, gen, h, handle.Slot(h), handle.Generation(h), handle.Valid(h))
			}
		}
	}
}

// P4.2: a word, unpacked and packed, is the same again. All integers from 0 to that of the greatest generation and state are words.
func TestWordUnpacked(t *testing.T) {
	for _, from := range []int{0, 1<<31 - 300, 1<<32 - 300, 1<<33 - 300, 4*lastGen + 3 - 1000} {
		for w := from; w <= from+1000; w++ {
			gen, state := handle.Gen(w), handle.State(w)
			if gen < 0 || gen > lastGen || state < api.Free || state > api.Cancelled || handle.Word(gen, state) != w {
				t.Fatalf("Gen(%d) = %d, State(%d) = %d, packed %d", w, gen, w, state, handle.Word(gen, state))
			}
		}
	}
}

// P4.2: a valid handle, unpacked and packed, is the same again.
func TestHandleUnpacked(t *testing.T) {
	for _, from := range []int{0, 1<<31 - 300, 1<<32 - 300, 1<<37 - 300, lastHandle - 1000} {
		for h := from; h <= from+1000; h++ {
			slot, gen := handle.Slot(h), handle.Generation(h)
			if slot < 0 || slot >= api.MaxSlots || gen < 0 || gen > lastGen || handle.Make(slot, gen) != h {
				t.Fatalf("Slot(%d) = %d, Generation(%d) = %d, packed %d", h, slot, h, gen, handle.Make(slot, gen))
			}
		}
	}
}

// pair is what a word or a handle is packed from: a generation, and a state or a slot.
type pair struct{ gen, other int }

// checkDistinct checks that pack returns distinct integers for distinct pairs of a generation and a number below others (P4.2).
func checkDistinct(t *testing.T, others int, pack func(gen int, other int) int) {
	t.Helper()
	from := map[int]pair{}
	for _, gen := range gens {
		for other := 0; other < others; other++ {
			p := pair{gen, other}
			packed := pack(gen, other)
			if q, seen := from[packed]; seen {
				t.Errorf("%v and %v are both packed as %d", p, q, packed)
			}
			from[packed] = p
		}
	}
}

// checkIncreasing checks that a greater generation gives a greater integer, whatever the numbers below others are (P4.3).
func checkIncreasing(t *testing.T, others int, pack func(gen int, other int) int) {
	t.Helper()
	for i, gen := range gens {
		for _, greater := range gens[i+1:] {
			for a := 0; a < others; a++ {
				for b := 0; b < others; b++ {
					if pack(gen, a) >= pack(greater, b) {
						t.Fatalf("%v is packed as %d, but %v as %d", pair{gen, a}, pack(gen, a), pair{greater, b}, pack(greater, b))
					}
				}
			}
		}
	}
}

func makeOf(gen int, slot int) int { return handle.Make(slot, gen) }

// P4.2: distinct generations and states have distinct words, distinct slots and generations distinct handles.
func TestDistinct(t *testing.T) {
	checkDistinct(t, api.Cancelled+1, handle.Word)
	checkDistinct(t, api.MaxSlots, makeOf)
}

// P4.3: words increase with the generation for any states, handles for any slots.
func TestIncreasing(t *testing.T) {
	checkIncreasing(t, api.Cancelled+1, handle.Word)
	checkIncreasing(t, api.MaxSlots, makeOf)
}

// P1: arguments for which the behavior is unspecified cause no panic. P2: equal arguments give equal results.
func TestUnspecifiedArguments(t *testing.T) {
	arguments := append([]int{0, 1, 3, 4, 63, 64, lastGen, lastGen + 1, lastHandle}, notHandles...)
	for _, a := range arguments {
		if handle.Gen(a) != handle.Gen(a) || handle.State(a) != handle.State(a) {
			t.Errorf("the fields of the word %d differ from call to call", a)
		}
		for _, b := range arguments {
			if handle.Word(a, b) != handle.Word(a, b) || handle.Make(a, b) != handle.Make(a, b) {
				t.Errorf("%d and %d are packed differently from call to call", a, b)
			}
		}
	}
}

// P2: the results depend on the arguments only, not on the calls before.
func TestIndependence(t *testing.T) {
	for _, before := range append([]int{0, 1, 133, lastHandle}, notHandles...) {
		handle.Word(before, before)
		handle.Gen(before)
		handle.State(before)
		handle.Make(before, before)
		handle.Valid(before)
		handle.Slot(before)
		handle.Generation(before)
		if handle.Word(3, api.Pending) != 13 || handle.Gen(13) != 3 || handle.State(13) != api.Pending {
			t.Errorf("after calls with %d: another word", before)
		}
		if handle.Make(5, 2) != 133 || !handle.Valid(133) || handle.Slot(133) != 5 || handle.Generation(133) != 2 {
			t.Errorf("after calls with %d: another handle", before)
		}
	}
}
