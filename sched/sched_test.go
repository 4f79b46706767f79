package sched_test

import (
	"math"
	"slices"
	"testing"

	"ropeladder/api"
	"ropeladder/sched"
)

const maxPicks = 1 << 16

// P2.1, B1: values that were computed apart from the program.
func TestRandomValues(t *testing.T) {
	for _, c := range []struct {
		seed    uint32
		threads int
		want    []int
	}{
		{0, 1, []int{0, 0, 0, 0}},
		{0, 2, []int{0, 0, 0, 1, 0, 0, 0, 1}},
		{0, 64, []int{46, 16, 12, 57, 18, 46}},
		{1, 3, []int{1, 2, 1, 1, 0, 0, 2, 0, 0, 1}},
		{12345, 7, []int{0, 6, 1, 1, 6, 6, 4, 5, 6, 6}},
		{math.MaxUint32, 64, []int{21, 23, 3, 63, 53, 4, 37, 16}},
	} {
		if l := sched.Random(c.seed, c.threads, len(c.want)); !slices.Equal(l, c.want) {
			t.Errorf("Random(%d, %d, %d) is %v, want %v", c.seed, c.threads, len(c.want), l, c.want)
		}
	}
}

// P2.1, B1: seeds whose first state lies at a wraparound modulo 2^32 or at the border of the bits that are shifted out.
func TestRandomWraparound(t *testing.T) {
	for _, c := range []struct {
		seed  uint32
		state uint32
	}{
		{634785765, 0},
		{653637408, math.MaxUint32},
		{2142943008, 1<<16 - 1},
		{2124091365, 1 << 16},
	} {
		for threads := 1; threads <= api.MaxThreads; threads++ {
			if l := sched.Random(c.seed, threads, 1); l[0] != int(c.state>>16)%threads {
				t.Errorf("Random(%d, %d, 1) is %v, want the pick of state %d", c.seed, threads, l, c.state)
			}
		}
	}
}

// slowRandom computes modulo 2^32 without relying on the wraparound of a 32-bit type.
func slowRandom(seed uint32, threads int, n int) []int {
	x, picks := uint64(seed), []int(nil)
	for range n {
		x = (1664525*x + 1013904223) % (1 << 32)
		picks = append(picks, int(x/(1<<16)%uint64(threads)))
	}
	return picks
}

// P2.1, B1: all numbers of threads, with seeds from the whole range; each schedule is a prefix of a longer one.
func TestRandomFollowsTheRecurrence(t *testing.T) {
	for threads := 1; threads <= api.MaxThreads; threads++ {
		for _, seed := range []uint32{0, 1, 2, 1 << 16, 1 << 31, 3000000019, math.MaxUint32} {
			want := slowRandom(seed, threads, 200)
			for _, n := range []int{0, 1, 2, 63, 200} {
				if l := sched.Random(seed, threads, n); !slices.Equal(l, want[:n]) {
					t.Fatalf("Random(%d, %d, %d) is %v, want %v", seed, threads, n, l, want[:n])
				}
			}
		}
	}
}

// P2.1, B1: the examples and named cases of RoundRobin.
func TestRoundRobinValues(t *testing.T) {
	for _, c := range []struct {
		first, threads int
		want           []int
	}{
		{1, 3, []int{1, 2, 0, 1, 2}},
		{0, 1, []int{0, 0, 0}},
		{0, 2, []int{0, 1, 0, 1}},
		{1, 2, []int{1, 0, 1, 0}},
		{2, 3, []int{2, 0}},
		{63, 64, []int{63, 0, 1}},
		{5, 9, nil},
	} {
		if l := sched.RoundRobin(c.first, c.threads, len(c.want)); !slices.Equal(l, c.want) {
			t.Errorf("RoundRobin(%d, %d, %d) is %v, want %v", c.first, c.threads, len(c.want), l, c.want)
		}
	}
}

// P2.1, B1: from every first thread, each pick is the successor of the one before.
func TestRoundRobinSuccessors(t *testing.T) {
	for threads := 1; threads <= api.MaxThreads; threads++ {
		for first := range threads {
			l := sched.RoundRobin(first, threads, 150)
			if len(l) != 150 || l[0] != first {
				t.Fatalf("RoundRobin(%d, %d, 150) is %v", first, threads, l)
			}
			for i := 1; i < len(l); i++ {
				next := l[i-1] + 1
				if next == threads {
					next = 0
				}
				if l[i] != next {
					t.Fatalf("RoundRobin(%d, %d, 150) has %d after %d", first, threads, l[i], l[i-1])
				}
			}
		}
	}
}

// P2.1, B1: no picks, and as many as a schedule may have.
func TestLengths(t *testing.T) {
	for _, n := range []int{0, 1, maxPicks - 1, maxPicks} {
		if l := sched.Random(7, api.MaxThreads, n); !slices.Equal(l, slowRandom(7, api.MaxThreads, n)) {
			t.Errorf("Random with %d picks has %d", n, len(l))
		}
		l := sched.RoundRobin(3, 64, n)
		if len(l) != n || n > 0 && l[n-1] != (n+2)%64 {
			t.Errorf("RoundRobin with %d picks has %d", n, len(l))
		}
	}
}

// P2: equal arguments have equal results, whatever was called before, and a caller's change of a result is not seen by others.
func TestResultsAreIndependent(t *testing.T) {
	random, robin, repaired := sched.Random(9, 5, 40), sched.RoundRobin(2, 5, 40), sched.Repair(make([]int, 40), 5, 7)
	for _, l := range [][]int{random, robin, repaired} {
		kept := slices.Clone(l)
		sched.Random(10, 6, 10)
		sched.Repair(sched.RoundRobin(1, 3, 9), 3, 3)
		if !slices.Equal(l, kept) {
			t.Error("a later call changed", kept, "into", l)
		}
	}
	copies := [][]int{slices.Clone(random), slices.Clone(robin), slices.Clone(repaired)}
	clear(random)
	clear(robin)
	clear(repaired)
	if !slices.Equal(sched.Random(9, 5, 40), copies[0]) || !slices.Equal(sched.RoundRobin(2, 5, 40), copies[1]) || !slices.Equal(sched.Repair(make([]int, 40), 5, 7), copies[2]) {
		t.Error("a second call has another result")
	}
}

// P1: where the chapter leaves the behavior unspecified, the functions still end and do not panic.
func TestUnspecifiedArguments(t *testing.T) {
	odd := []int{math.MinInt, -1 << 32, -65, -1, 0, 1, 2, 63, 64, 65, maxPicks + 1, 1 << 32, 1 << 62, math.MaxInt}
	schedules := [][]int{nil, {}, {0}, {0, 1, 0, 1}, {-1, 5, 0}, {math.MinInt, math.MaxInt, 64, 0, 1, -64}, make([]int, maxPicks+3)}
	for _, a := range odd {
		for _, b := range odd {
			for _, l := range schedules {
				sched.Fair(l, a, b)
				sched.Repair(l, a, b)
			}
			sched.Random(1, a, b)
			for _, c := range odd {
				sched.RoundRobin(c, a, b)
			}
		}
	}
}
