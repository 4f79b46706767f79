package arena_test

import (
	"math"
	"testing"

	"ropeladder/api"
	"ropeladder/arena"
)

// slowValid reads the definition of a valid arena word by word.
func slowValid(a api.Arena) bool {
	if len(a.Slots) < 1 || len(a.Slots) > 64 || a.Next < 0 || a.Next > lastNext {
		return false
	}
	for i, s := range a.Slots {
		if s.Gen < 0 || s.Gen > lastGen || s.State < 0 || s.State > 3 {
			return false
		}
		if s.State == 0 && (s.Time != 0 || s.Seq != 0) {
			return false
		}
		if s.State != 0 && (s.Time < 0 || s.Time > lastTime || s.Seq < 0 || s.Seq > a.Next-1) {
			return false
		}
		for _, other := range a.Slots[:i] {
			if s.State != 0 && other.State != 0 && s.Seq == other.Seq {
				return false
			}
		}
		times := 0
		for _, index := range a.Idle {
			if index < 0 || index >= len(a.Slots) {
				return false
			}
			if index == i {
				times++
			}
		}
		if s.State == 0 && times != 1 || s.State != 0 && times != 0 {
			return false
		}
	}
	return true
}

// change is a sample with a change of a few fields.
type change struct {
	what  string
	apply func(a *api.Arena)
}

func changed(c change) api.Arena {
	a := sample()
	c.apply(&a)
	return a
}

// allLive turns the free slots of the sample into live ones.
func allLive(a *api.Arena) {
	a.Slots[1].State, a.Slots[1].Seq = api.Pending, 1
	a.Slots[4].State, a.Slots[4].Seq = api.Pending, 2
	a.Idle = nil
}

// allFree returns that many free slots and an Idle with all of them.
func allFree(n int) api.Arena {
	a := api.Arena{Slots: make([]api.Slot, n), Idle: make([]int, n)}
	for i := range n {
		a.Idle[i] = i
	}
	return a
}

// sound are changes after which the sample is still valid: bounds that belong to the ranges, and what the definition leaves open.
func sound() []change {
	return []change{
		{"nothing", func(a *api.Arena) {}},
		{"Gen 0 of a live slot", func(a *api.Arena) { a.Slots[0].Gen = 0 }},
		{"last Gen of a live slot", func(a *api.Arena) { a.Slots[0].Gen = lastGen }},
		{"last Gen of a free slot", func(a *api.Arena) { a.Slots[1].Gen = lastGen }},
		{"equal Gens", func(a *api.Arena) { a.Slots[0].Gen = a.Slots[1].Gen }},
		{"last Time", func(a *api.Arena) { a.Slots[0].Time = lastTime }},
		{"Time 0", func(a *api.Arena) { a.Slots[0].Time = 0 }},
		{"equal Times", func(a *api.Arena) { a.Slots[0].Time = a.Slots[3].Time }},
		{"another order of Idle", func(a *api.Arena) { a.Idle = []int{1, 4} }},
		{"last Next", func(a *api.Arena) { a.Next = lastNext }},
		{"last Next and Seq", func(a *api.Arena) { a.Next, a.Slots[0].Seq = lastNext, lastNext-1 }},
		{"no free slot", allLive},
		{"no free slot, Idle not nil", func(a *api.Arena) { allLive(a); a.Idle = []int{} }},
		{"no live slot", func(a *api.Arena) { *a = allFree(5) }},
		{"no live slot, last Next", func(a *api.Arena) { *a = allFree(5); a.Next = lastNext }},
		{"one slot", func(a *api.Arena) { *a = allFree(1) }},
		{"64 slots", func(a *api.Arena) { *a = allFree(64) }},
	}
}

// flaws are changes of the sample, each of which breaks one condition of the definition alone.
func flaws() []change {
	return append(append(flawsOfSlots(), flawsOfIdle()...), []change{
		{"no slots", func(a *api.Arena) { *a = api.Arena{} }},
		{"no slots, not nil", func(a *api.Arena) { *a = api.Arena{Slots: []api.Slot{}, Idle: []int{}, Next: 3} }},
		{"65 slots", func(a *api.Arena) { *a = allFree(65) }},
		{"128 slots", func(a *api.Arena) { *a = allFree(128) }},
		{"Next -1", func(a *api.Arena) { *a = allFree(5); a.Next = -1 }},
		{"least Next", func(a *api.Arena) { *a = allFree(5); a.Next = math.MinInt }},
		{"Next beyond the last", func(a *api.Arena) { a.Next = lastNext + 1 }},
		{"greatest Next", func(a *api.Arena) { a.Next = math.MaxInt }},
	}...)
}

func flawsOfSlots() []change {
	return []change{
		{"Gen -1 of a live slot", func(a *api.Arena) { a.Slots[0].Gen = -1 }},
		{"Gen -1 of a free slot", func(a *api.Arena) { a.Slots[4].Gen = -1 }},
		{"Gen of a live slot beyond the last", func(a *api.Arena) { a.Slots[3].Gen = lastGen + 1 }},
		{"Gen of a free slot beyond the last", func(a *api.Arena) { a.Slots[1].Gen = lastGen + 1 }},
		{"State -1", func(a *api.Arena) { a.Slots[0].State = -1 }},
		{"State 4", func(a *api.Arena) { a.Slots[0].State = 4 }},
		{"State 5", func(a *api.Arena) { a.Slots[3].State = 5 }},
		{"State 257", func(a *api.Arena) { a.Slots[0].State = 257 }},
		{"Time 1 of a free slot", func(a *api.Arena) { a.Slots[1].Time = 1 }},
		{"Time -1 of a free slot", func(a *api.Arena) { a.Slots[4].Time = -1 }},
		{"Seq 1 of a free slot", func(a *api.Arena) { a.Slots[4].Seq = 1 }},
		{"Seq -1 of a free slot", func(a *api.Arena) { a.Slots[1].Seq = -1 }},
		{"Time -1 of a pending slot", func(a *api.Arena) { a.Slots[0].Time = -1 }},
		{"Time -1 of a claimed slot", func(a *api.Arena) { a.Slots[2].Time = -1 }},
		{"Time -1 of a cancelled slot", func(a *api.Arena) { a.Slots[3].Time = -1 }},
		{"Time of a pending slot beyond the last", func(a *api.Arena) { a.Slots[0].Time = lastTime + 1 }},
		{"Time of a claimed slot beyond the last", func(a *api.Arena) { a.Slots[2].Time = lastTime + 1 }},
		{"Time of a cancelled slot beyond the last", func(a *api.Arena) { a.Slots[3].Time = lastTime + 1 }},
		{"Seq -1 of a pending slot", func(a *api.Arena) { a.Slots[0].Seq = -1 }},
		{"Seq -1 of a claimed slot", func(a *api.Arena) { a.Slots[2].Seq = -1 }},
		{"Seq -1 of a cancelled slot", func(a *api.Arena) { a.Slots[3].Seq = -1 }},
		{"Seq of a pending slot that is Next", func(a *api.Arena) { a.Slots[0].Seq = 10 }},
		{"Seq of a claimed slot that is Next", func(a *api.Arena) { a.Slots[2].Seq = 10 }},
		{"Seq of a cancelled slot that is Next", func(a *api.Arena) { a.Slots[3].Seq = 10 }},
		{"greatest Seq", func(a *api.Arena) { a.Slots[3].Seq = math.MaxInt }},
		{"Next 9", func(a *api.Arena) { a.Next = 9 }},
		{"Next 0 and a Seq of 0", func(a *api.Arena) {
			*a = api.Arena{Slots: []api.Slot{{State: api.Pending}}}
		}},
		{"equal Seqs of slots 0 and 2", func(a *api.Arena) { a.Slots[0].Seq = 0 }},
		{"equal Seqs of slots 0 and 3", func(a *api.Arena) { a.Slots[3].Seq = 5 }},
		{"equal Seqs of slots 2 and 3", func(a *api.Arena) { a.Slots[3].Seq = 0 }},
	}
}

func flawsOfIdle() []change {
	return []change{
		{"Idle empty", func(a *api.Arena) { a.Idle = nil }},
		{"Idle lacks slot 1", func(a *api.Arena) { a.Idle = []int{4} }},
		{"Idle lacks slot 4", func(a *api.Arena) { a.Idle = []int{1} }},
		{"Idle has slot 1 twice", func(a *api.Arena) { a.Idle = []int{4, 1, 1} }},
		{"Idle has slot 4 twice", func(a *api.Arena) { a.Idle = []int{4, 1, 4} }},
		{"Idle has slot 1 twice in place of slot 4", func(a *api.Arena) { a.Idle = []int{1, 1} }},
		{"Idle has a pending slot", func(a *api.Arena) { a.Idle = []int{4, 1, 0} }},
		{"Idle has a claimed slot", func(a *api.Arena) { a.Idle = []int{2, 4, 1} }},
		{"Idle has a cancelled slot", func(a *api.Arena) { a.Idle = []int{4, 3, 1} }},
		{"Idle has a pending slot in place of slot 1", func(a *api.Arena) { a.Idle = []int{4, 0} }},
		{"Idle has slot 5", func(a *api.Arena) { a.Idle = []int{4, 1, 5} }},
		{"Idle has slot -1", func(a *api.Arena) { a.Idle = []int{4, 1, -1} }},
		{"Idle has slot 5 in place of slot 1", func(a *api.Arena) { a.Idle = []int{4, 5} }},
		{"Idle has slot -1 in place of slot 1", func(a *api.Arena) { a.Idle = []int{4, -1} }},
		{"Idle has slot 64", func(a *api.Arena) { a.Idle = []int{4, 1, 64} }},
		{"Idle has the least index", func(a *api.Arena) { a.Idle = []int{4, math.MinInt} }},
		{"Idle has the greatest index", func(a *api.Arena) { a.Idle = []int{4, math.MaxInt} }},
		{"Idle has slot 0 of a full arena", func(a *api.Arena) { allLive(a); a.Idle = []int{0} }},
	}
}

// P5.1, E1: arenas that keep all conditions, and arenas that break one of them alone.
func TestValid(t *testing.T) {
	for _, c := range sound() {
		if a := changed(c); !arena.Valid(a) {
			t.Errorf("with %s, Valid is false for %v", c.what, a)
		}
	}
	for _, c := range flaws() {
		if a := changed(c); arena.Valid(a) {
			t.Errorf("with %s, Valid is true for %v", c.what, a)
		}
	}
	for _, a := range []api.Arena{worn(), full(), spent()} {
		if !arena.Valid(a) {
			t.Errorf("Valid is false for %v", a)
		}
	}
}

// slotsOf returns all slots with these generations, states, times and sequence numbers.
func slotsOf(gens []int, states []int, times []int, seqs []int) []api.Slot {
	var slots []api.Slot
	for _, gen := range gens {
		for _, state := range states {
			for _, time := range times {
				for _, seq := range seqs {
					slots = append(slots, api.Slot{Gen: gen, State: state, Time: time, Seq: seq})
				}
			}
		}
	}
	return slots
}

func checkValid(t *testing.T, a api.Arena) {
	t.Helper()
	if got, want := arena.Valid(a), slowValid(a); got != want {
		t.Fatalf("Valid(%v) = %t, want %t", a, got, want)
	}
}

// P5.1, E1: all arenas of one slot with fields at and next to their bounds.
func TestValidOneSlot(t *testing.T) {
	slots := slotsOf([]int{-1, 0, 1, lastGen, lastGen + 1}, []int{-1, 0, 1, 2, 3, 4}, []int{-1, 0, 1, lastTime, lastTime + 1}, []int{-1, 0, 1, 2, lastNext - 1, lastNext})
	idles := [][]int{nil, {0}, {1}, {-1}, {0, 0}, {0, 1}}
	for _, s := range slots {
		for _, idle := range idles {
			for _, next := range []int{-1, 0, 1, 2, lastNext, lastNext + 1} {
				checkValid(t, api.Arena{Slots: []api.Slot{s}, Idle: idle, Next: next})
			}
		}
	}
}

// P5.1, E1: all arenas of two slots with few values of each field, for the conditions that concern both slots.
func TestValidTwoSlots(t *testing.T) {
	slots := slotsOf([]int{0, 6}, []int{-1, 0, 1, 2, 3}, []int{0, 1}, []int{0, 1, 2})
	idles := [][]int{nil, {0}, {1}, {2}, {-1}, {0, 0}, {0, 1}, {1, 0}, {1, 1}, {0, 2}, {0, 1, 1}, {1, 0, 2}}
	for _, s := range slots {
		for _, other := range slots {
			for _, idle := range idles {
				for _, next := range []int{0, 1, 2} {
					checkValid(t, api.Arena{Slots: []api.Slot{s, other}, Idle: idle, Next: next})
				}
			}
		}
	}
}
