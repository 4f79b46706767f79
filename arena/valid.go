package arena

import "ropeladder/api"

// Valid reports whether an arena satisfies its invariants.
func Valid(a api.Arena) bool {
	return validCapacity(len(a.Slots)) && 0 <= a.Next && a.Next <= maxNext && validSlots(a) && validIdle(a)
}

func validCapacity(capacity int) bool { return 1 <= capacity && capacity <= api.MaxSlots }

func validTime(time int) bool { return 0 <= time && time <= api.MaxTime }

func isLive(state int) bool {
	return state == api.Pending || state == api.Claimed || state == api.Cancelled
}

func validSlots(a api.Arena) bool {
	var seqs []int
	for _, s := range a.Slots {
		if !validSlot(s, a.Next) {
			return false
		}
		if isLive(s.State) {
			seqs = append(seqs, s.Seq)
		}
	}
	return distinct(seqs)
}

// validSlot checks what concerns one slot alone.
func validSlot(s api.Slot, next int) bool {
	if s.Gen < 0 || s.Gen > maxGen {
		return false
	}
	if s.State == api.Free {
		return s.Time == 0 && s.Seq == 0
	}
	return isLive(s.State) && validTime(s.Time) && 0 <= s.Seq && s.Seq < next
}

// validIdle relies on counting: distinct indices of free slots, as many as there are free slots, are all of them.
func validIdle(a api.Arena) bool {
	for _, index := range a.Idle {
		if !isIndex(a, index) || a.Slots[index].State != api.Free {
			return false
		}
	}
	return len(a.Idle) == len(a.Slots)-Live(a) && distinct(a.Idle)
}

func distinct(numbers []int) bool {
	seen := map[int]bool{}
	for _, n := range numbers {
		if seen[n] {
			return false
		}
		seen[n] = true
	}
	return true
}
