package sched_test

import (
	"math"
	"slices"
	"testing"

	"ropeladder/api"
	"ropeladder/sched"
)

// schedules calls f with every schedule of at most maxLen picks of that many threads.
func schedules(threads int, maxLen int, f func(picks []int)) {
	var extend func(picks []int)
	extend = func(picks []int) {
		f(picks)
		if len(picks) == maxLen {
			return
		}
		for p := range threads {
			extend(append(slices.Clone(picks), p))
		}
	}
	extend(nil)
}

// slowFair reads B2 word by word: it looks for each thread in each window.
func slowFair(picks []int, threads int, window int) bool {
	for i := 0; i+window <= len(picks); i++ {
		for p := range threads {
			if !slices.Contains(picks[i:i+window], p) {
				return false
			}
		}
	}
	return true
}

// slowRepair reads B3 word by word: it counts every age from the picks made so far. due tells at which picks a thread was due.
func slowRepair(picks []int, threads int, window int) (made []int, due []bool) {
	for _, pick := range picks {
		oldest, oldestAge, d := 0, -1, 0
		for p := range threads {
			age := 0
			for i := len(made) - 1; i >= 0 && made[i] != p; i-- {
				age++
			}
			if age > oldestAge {
				oldest, oldestAge = p, age
			}
			if age >= window-threads {
				d++
			}
		}
		if d > 0 {
			pick = oldest
		}
		made, due = append(made, pick), append(due, d > 0)
	}
	return made, due
}

// P2.1, B2: the cases that the chapter names.
func TestFairCases(t *testing.T) {
	for _, c := range []struct {
		name            string
		picks           []int
		threads, window int
		want            bool
	}{
		{"no picks", nil, 3, 3, true},
		{"no picks, a window less than the threads", nil, 3, 1, true},
		{"one thread", []int{0, 0, 0}, 1, 1, true},
		{"one thread, a longer window", []int{0, 0, 0}, 1, 2, true},
		{"fewer picks than the window", []int{0}, 2, 2, true},
		{"fewer picks than the window, of one thread only", []int{0, 0, 0, 0}, 2, 5, true},
		{"as many picks as the window", []int{0, 0, 0, 0, 1}, 2, 5, true},
		{"as many picks as the window, without a thread", []int{0, 0, 0, 0, 0}, 2, 5, false},
		{"a window less than the threads, fewer picks", []int{0}, 3, 2, true},
		{"a window less than the threads, as many picks", []int{0, 1}, 3, 2, false},
		{"a window less than the threads, more picks", []int{0, 1, 2, 0, 1, 2}, 3, 2, false},
		{"a window of one, two threads", []int{0}, 2, 1, false},
		{"a window equal to the threads", []int{2, 0, 1, 2, 0}, 3, 3, true},
		{"a window equal to the threads, another order", []int{2, 0, 1, 0, 2}, 3, 3, false},
		{"only the first window lacks a thread", []int{0, 0, 1, 0, 1}, 2, 2, false},
		{"only a middle window lacks a thread", []int{0, 1, 1, 0, 1}, 2, 2, false},
		{"only the last window lacks a thread", []int{0, 1, 0, 1, 1}, 2, 2, false},
		{"the last thread is missing", []int{0, 1, 2, 0, 1, 2}, 4, 4, false},
		{"the first thread is missing", []int{1, 2, 3, 1, 2, 3}, 4, 6, false},
	} {
		if sched.Fair(c.picks, c.threads, c.window) != c.want {
			t.Errorf("%s: Fair(%v, %d, %d) is %v", c.name, c.picks, c.threads, c.window, !c.want)
		}
	}
}

// P2.1, B2: all short schedules, against the definition.
func TestFairAgainstDefinition(t *testing.T) {
	for threads, maxLen := range map[int]int{1: 10, 2: 10, 3: 7, 4: 5} {
		schedules(threads, maxLen, func(picks []int) {
			for window := 1; window <= maxLen+1; window++ {
				want := slowFair(picks, threads, window)
				if sched.Fair(picks, threads, window) != want {
					t.Fatalf("Fair(%v, %d, %d) is %v", picks, threads, window, !want)
				}
			}
		})
	}
}

// P2.1, B2: a long schedule with the most threads and windows of all sizes, of which only one lacks a thread.
func TestFairOfLongSchedules(t *testing.T) {
	for _, window := range []int{64, 65, 1000, 1 << 15, maxPicks} {
		l := sched.RoundRobin(0, api.MaxThreads, maxPicks)
		if !sched.Fair(l, api.MaxThreads, window) {
			t.Errorf("round-robin is not fair for window %d", window)
		}
		for i := range l[:window] {
			if l[i] == 17 {
				l[i] = 18
			}
		}
		if sched.Fair(l, api.MaxThreads, window) {
			t.Errorf("Fair did not see the window of %d picks without thread 17", window)
		}
	}
	if !sched.Fair(make([]int, maxPicks), 2, maxPicks+1) || !sched.Fair(make([]int, 10), 2, math.MaxInt) {
		t.Error("fewer picks than the window are not fair")
	}
}

// P2.1, B3: results that follow step by step from B3.
func TestRepairCases(t *testing.T) {
	for _, c := range []struct {
		name            string
		picks           []int
		threads, window int
		want            []int
	}{
		{"the example", []int{0, 0, 0, 0}, 2, 2, []int{0, 1, 0, 1}},
		{"a window greater by one", []int{0, 0, 0, 0, 0, 0}, 2, 3, []int{0, 1, 0, 1, 0, 1}},
		{"a window greater by two", []int{0, 0, 0, 0, 0, 0}, 2, 4, []int{0, 0, 1, 0, 0, 1}},
		{"no picks", nil, 4, 4, nil},
		{"one thread", []int{0, 0, 0}, 1, 1, []int{0, 0, 0}},
		{"one thread, a longer window", []int{0, 0, 0}, 1, 9, []int{0, 0, 0}},
		{"a window equal to the threads: always the oldest", []int{2, 2, 2, 2, 2}, 3, 3, []int{0, 1, 2, 0, 1}},
		{"equally old threads: the least first", []int{0, 0, 0, 0, 0, 0}, 3, 5, []int{0, 0, 1, 2, 0, 1}},
		{"equally old threads: the last one was picked", []int{2, 2, 2, 2, 2, 2}, 3, 5, []int{2, 2, 0, 1, 2, 0}},
		{"fewer picks than the window, though a thread is due", []int{1, 1, 1, 1}, 2, 5, []int{1, 1, 1, 0}},
		{"fewer picks than a thread needs to become due", []int{1, 1, 1}, 2, 5, []int{1, 1, 1}},
		{"a fair schedule that is changed, as a thread is due early", []int{0, 1, 1, 0}, 2, 3, []int{0, 1, 0, 1}},
	} {
		if l := sched.Repair(c.picks, c.threads, c.window); !slices.Equal(l, c.want) {
			t.Errorf("%s: Repair(%v, %d, %d) is %v, want %v", c.name, c.picks, c.threads, c.window, l, c.want)
		}
	}
}

// checkRepair checks B3, fairness (P2.2) and minimal change (P2.3) for one schedule.
func checkRepair(t *testing.T, picks []int, threads int, window int) {
	t.Helper()
	kept := slices.Clone(picks)
	got := sched.Repair(picks, threads, window)
	want, due := slowRepair(kept, threads, window)
	if !slices.Equal(got, want) {
		t.Fatalf("Repair(%v, %d, %d) is %v, want %v", kept, threads, window, got, want)
	}
	if !slowFair(got, threads, window) || !sched.Fair(got, threads, window) {
		t.Fatalf("Repair(%v, %d, %d) is %v, which is not fair", kept, threads, window, got)
	}
	for i := range due {
		if !due[i] && got[i] != kept[i] {
			t.Fatalf("Repair(%v, %d, %d) is %v: no thread was due at pick %d", kept, threads, window, got, i)
		}
	}
	if !slices.Contains(due, true) && !slices.Equal(got, kept) {
		t.Fatalf("Repair(%v, %d, %d) is %v, but no thread becomes due", kept, threads, window, got)
	}
	if !slices.Equal(picks, kept) {
		t.Fatalf("Repair changed its argument from %v to %v", kept, picks)
	}
}

// P2.1, P2.2, P2.3: all short schedules.
func TestRepairOfAllShortSchedules(t *testing.T) {
	for threads, maxLen := range map[int]int{1: 8, 2: 9, 3: 7, 4: 5} {
		schedules(threads, maxLen, func(picks []int) {
			for window := threads; window <= threads+4; window++ {
				checkRepair(t, picks, threads, window)
			}
		})
	}
}

// P2.1, P2.2, P2.3: longer schedules of many threads, random ones and ones in which all threads but one starve.
func TestRepairOfLongSchedules(t *testing.T) {
	for _, threads := range []int{1, 2, 5, 31, 63, 64} {
		for _, extra := range []int{0, 1, 2, threads, 5 * threads, 1 << 20} {
			for seed := range uint32(3) {
				checkRepair(t, sched.Random(seed, threads, 300), threads, threads+extra)
			}
			checkRepair(t, make([]int, 300), threads, threads+extra)
			checkRepair(t, slices.Repeat([]int{threads - 1}, 300), threads, threads+extra)
		}
	}
}

// P2.2: a repaired schedule of the greatest length is fair.
func TestRepairIsFairAtTheGreatestLength(t *testing.T) {
	for _, window := range []int{64, 65, 128, 5000} {
		l := sched.Repair(sched.Random(99, api.MaxThreads, maxPicks), api.MaxThreads, window)
		if len(l) != maxPicks || !sched.Fair(l, api.MaxThreads, window) {
			t.Errorf("window %d: %d picks, not fair", window, len(l))
		}
	}
}

// P2.2: round-robin schedules are fair for every window of at least the number of threads, and for no lesser one.
func TestRoundRobinIsFair(t *testing.T) {
	for threads := 1; threads <= api.MaxThreads; threads++ {
		for first := range threads {
			l := sched.RoundRobin(first, threads, 2*threads+1)
			for window := threads; window <= 2*threads+2; window++ {
				if !sched.Fair(l, threads, window) {
					t.Fatalf("%v is not fair for %d threads and window %d", l, threads, window)
				}
			}
			if threads > 1 && sched.Fair(l, threads, threads-1) {
				t.Fatalf("%v is fair for %d threads and window %d", l, threads, threads-1)
			}
		}
	}
}

// P2.3: a schedule in which no thread becomes due stays as it is: every thread is picked again before its age reaches window - threads.
func TestRepairKeepsGoodSchedules(t *testing.T) {
	for threads := 1; threads <= api.MaxThreads; threads++ {
		for first := range threads {
			l := sched.RoundRobin(first, threads, 200)
			if got := sched.Repair(l, threads, 2*threads); !slices.Equal(got, l) {
				t.Fatalf("Repair(%v, %d, %d) is %v", l, threads, 2*threads, got)
			}
		}
	}
	starved := make([]int, 200)
	if l := sched.Repair(starved, 2, 202); !slices.Equal(l, starved) {
		t.Error("a thread was due before its age was 200:", l)
	}
	if l := sched.Repair(starved, 2, 201); !slices.Equal(l[:199], starved[:199]) || l[199] != 1 {
		t.Error("thread 1 was not picked just when its age was 199:", l)
	}
	if l := sched.Repair(starved, 2, math.MaxInt); !slices.Equal(l, starved) {
		t.Error("a thread was due for the greatest window:", l)
	}
}

// P2.1: the functions leave their arguments alone, also at other lengths than their capacity, and results share no memory with them.
func TestArgumentsAreLeftAlone(t *testing.T) {
	full := sched.Random(4, 3, 60)
	kept := slices.Clone(full)
	l := sched.Repair(full[:30], 3, 4)
	sched.Fair(full[:30], 3, 4)
	_ = append(l, 77)
	for i := range l {
		l[i] = 99
	}
	if !slices.Equal(full, kept) {
		t.Error("the argument changed from", kept, "to", full)
	}
}
