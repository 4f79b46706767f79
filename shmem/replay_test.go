package shmem_test

import (
	"slices"
	"testing"

	"ropeladder/api"
	"ropeladder/shmem"
)

const (
	numWords   = 3
	numMutexes = 2
	numThreads = 3
)

// numbers returns a generator of pseudo-random numbers below its argument, the same ones for the same seed.
func numbers(seed uint64) func(n int) int {
	state := seed*2654435761 + 1
	return func(n int) int {
		state = state*6364136223846793005 + 1442695040888963407
		return int(state>>33) % n
	}
}

// outcome is what a caller sees of one call.
type outcome struct {
	value int
	ok    bool
}

// perform makes one call that next chooses, on cells that exist or just do not, and returns what it returned.
func perform(m *shmem.Memory, next func(int) int) outcome {
	thread, word, mutex := next(numThreads), next(numWords+2)-1, next(numMutexes+2)-1
	switch next(8) {
	case 0:
		return outcome{value: m.Load(thread, word)}
	case 1:
		m.Store(thread, word, next(4))
		return outcome{}
	case 2:
		return outcome{value: m.Add(thread, word, next(5)-2)}
	case 3:
		return outcome{ok: m.CompareAndSwap(thread, word, next(4), next(4))}
	case 4:
		return outcome{ok: m.Touch(thread, mutex)}
	case 5:
		return outcome{ok: m.Unlock(thread, mutex)}
	default:
		return outcome{ok: m.TryLock(thread, mutex)}
	}
}

// state is what a replay of a log yields.
type state struct {
	words   [numWords]int
	holders [numMutexes]int
}

func replay(t *testing.T, log []api.Access) state {
	t.Helper()
	s := state{}
	for i := range s.holders {
		s.holders[i] = -1
	}
	for n, a := range log {
		if a.Kind == api.AccessLock || a.Kind == api.AccessUnlock {
			replayMutex(t, &s, n, a)
		} else {
			replayWord(t, &s, n, a)
		}
	}
	return s
}

func replayWord(t *testing.T, s *state, n int, a api.Access) {
	t.Helper()
	if s.words[a.Index] != a.Old {
		t.Fatalf("access %d %v: the previous access left %d", n, a, s.words[a.Index])
	}
	same := a.Kind == api.AccessLoad || !a.OK
	if same && a.Old != a.New || !a.OK && a.Kind != api.AccessCAS {
		t.Fatalf("access %d %v: a change or a failure that its kind does not have", n, a)
	}
	s.words[a.Index] = a.New
}

func replayMutex(t *testing.T, s *state, n int, a api.Access) {
	t.Helper()
	held := 0
	if s.holders[a.Index] != -1 {
		held = 1
	}
	if held != a.Old {
		t.Fatalf("access %d %v: the previous access left %d", n, a, held)
	}
	if !a.OK {
		if a.Old != a.New {
			t.Fatalf("access %d %v: a failure with a change", n, a)
		}
		return
	}
	want, holder := 1, a.Thread
	if a.Kind == api.AccessUnlock {
		want, holder = 0, -1
		if s.holders[a.Index] != a.Thread {
			t.Fatalf("access %d %v: the holder is thread %d", n, a, s.holders[a.Index])
		}
	}
	if a.New != want || a.Old == want {
		t.Fatalf("access %d %v: success without a change", n, a)
	}
	s.holders[a.Index] = holder
}

// P1.2: after every call, the replay of the log yields all words and holders.
func TestReplay(t *testing.T) {
	for seed := range uint64(60) {
		m, next := shmem.New(numWords, numMutexes), numbers(seed)
		for range 120 {
			perform(m, next)
			s := replay(t, m.Log())
			for i, v := range s.words {
				if m.Word(i) != v {
					t.Fatalf("seed %d: word %d is %d, the log yields %d", seed, i, m.Word(i), v)
				}
			}
			for i, h := range s.holders {
				if m.Holder(i) != h {
					t.Fatalf("seed %d: mutex %d has holder %d, the log yields %d", seed, i, m.Holder(i), h)
				}
			}
		}
	}
}

// P1.2: a log only grows, by at most one access a call.
func TestLogGrows(t *testing.T) {
	m, next := shmem.New(numWords, numMutexes), numbers(7)
	before := m.Log()
	for range 400 {
		perform(m, next)
		after := m.Log()
		if n := len(after) - len(before); n < 0 || n > 1 || !slices.Equal(after[:len(before)], before) {
			t.Fatal("the log went from", before, "to", after)
		}
		before = after
	}
}

// P1.3: in all sequences of six TryLocks and Unlocks of two threads, a TryLock succeeds just when nobody holds the mutex, and an Unlock just when its thread does.
func TestMutualExclusion(t *testing.T) {
	const length, kinds = 6, 4
	for code := range 1 << (2 * length) {
		m, holder, bad := shmem.New(0, 1), -1, 0
		for step, rest := 0, code; step < length; step, rest = step+1, rest/kinds {
			thread := rest % 2
			if rest/2%2 == 0 {
				free := holder == -1
				if m.TryLock(thread, 0) != free {
					t.Fatalf("sequence %d, step %d: TryLock by %d while the holder is %d", code, step, thread, holder)
				}
				if free {
					holder = thread
				}
			} else {
				own := holder == thread
				if m.Unlock(thread, 0) != own {
					t.Fatalf("sequence %d, step %d: Unlock by %d while the holder is %d", code, step, thread, holder)
				}
				if own {
					holder = -1
				} else {
					bad++
				}
			}
			if m.Holder(0) != holder || m.Violations() != bad {
				t.Fatalf("sequence %d, step %d: holder %d, %d violations, want %d and %d", code, step, m.Holder(0), m.Violations(), holder, bad)
			}
		}
	}
}

// P1.3: the calls of many threads on many mutexes, between which words are accessed, never let two threads in.
func TestMutualExclusionOfManyMutexes(t *testing.T) {
	m, next := shmem.New(1, api.MaxWords), numbers(11)
	holders := map[int]int{}
	for range 20000 {
		thread, i := next(api.MaxThreads), next(4)*85
		holder, held := holders[i]
		m.Add(thread, 0, 1)
		if next(2) == 0 {
			if m.TryLock(thread, i) == held {
				t.Fatalf("TryLock of mutex %d by %d, held %v by %d", i, thread, held, holder)
			}
			if !held {
				holders[i] = thread
			}
			continue
		}
		if held && next(2) == 0 {
			thread = holder
		}
		if m.Unlock(thread, i) != (held && holder == thread) {
			t.Fatalf("Unlock of mutex %d by %d, held %v by %d", i, thread, held, holder)
		}
		if held && holder == thread {
			delete(holders, i)
		}
	}
}

// P2: the same calls on two memories have the same results.
func TestResultsDependOnCallsOnly(t *testing.T) {
	a, b := shmem.New(numWords, numMutexes), shmem.New(numWords, numMutexes)
	nextA, nextB := numbers(3), numbers(3)
	for n := range 500 {
		if x, y := perform(a, nextA), perform(b, nextB); x != y {
			t.Fatalf("call %d returned %v and %v", n, x, y)
		}
	}
	if !slices.Equal(a.Log(), b.Log()) || a.Violations() != b.Violations() {
		t.Error("the logs or the violations differ")
	}
}
