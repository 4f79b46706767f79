package shmem_test

import (
	"math"
	"slices"
	"testing"

	"ropeladder/api"
	"ropeladder/shmem"
)

// outside returns indices of no cell of a row of n cells.
func outside(n int) []int {
	return []int{-1, n, n + 1, api.MaxWords, math.MinInt, math.MaxInt}
}

// lastAccess fails unless the log has exactly n accesses, and returns the last one.
func lastAccess(t *testing.T, m *shmem.Memory, n int) api.Access {
	t.Helper()
	l := m.Log()
	if len(l) != n {
		t.Fatalf("the log has %d accesses, want %d: %v", len(l), n, l)
	}
	return l[n-1]
}

// P1.1, A1: sizes at and beyond 0..256.
func TestNewSizes(t *testing.T) {
	for _, n := range []int{0, 1, 2, 255, 256} {
		if shmem.New(n, 0) == nil || shmem.New(0, n) == nil || shmem.New(n, n) == nil {
			t.Errorf("size %d is refused", n)
		}
	}
	for _, n := range []int{-1, -256, 257, 1 << 32, math.MinInt, math.MaxInt} {
		if shmem.New(n, 0) != nil || shmem.New(0, n) != nil || shmem.New(n, n) != nil {
			t.Errorf("size %d is accepted", n)
		}
	}
}

// P1.1, A1: as many words and mutexes as asked for, all zero and free.
func TestNewIsEmpty(t *testing.T) {
	m := shmem.New(256, 3)
	for i := range 256 {
		if m.Word(i) != 0 || m.Load(0, i) != 0 {
			t.Errorf("word %d is not 0", i)
		}
	}
	if n := len(m.Log()); n != 256 {
		t.Errorf("%d words were loaded, want 256", n)
	}
	m = shmem.New(3, 256)
	if len(m.Log()) != 0 || m.Violations() != 0 {
		t.Error("a new memory has a log or violations")
	}
	for i := range 256 {
		if m.Holder(i) != -1 || !m.TryLock(i, i) || m.Holder(i) != i {
			t.Errorf("mutex %d is not free", i)
		}
	}
}

// P1.1, A1: memories share nothing.
func TestMemoriesAreSeparate(t *testing.T) {
	a, b := shmem.New(1, 1), shmem.New(1, 1)
	a.Store(0, 0, 9)
	a.TryLock(0, 0)
	a.Touch(5, 0)
	if b.Word(0) != 0 || b.Holder(0) != -1 || b.Violations() != 0 || len(b.Log()) != 0 {
		t.Error("one memory changed another")
	}
}

// P1.1, A2: the results and the logged accesses of the operations on words.
func TestWordOperations(t *testing.T) {
	m := shmem.New(3, 0)
	m.Store(4, 2, 10)
	if a := lastAccess(t, m, 1); a != (api.Access{Thread: 4, Kind: api.AccessStore, Index: 2, Old: 0, New: 10, OK: true}) {
		t.Error("Store logged", a)
	}
	if v := m.Load(5, 2); v != 10 {
		t.Error("Load returned", v)
	}
	if a := lastAccess(t, m, 2); a != (api.Access{Thread: 5, Kind: api.AccessLoad, Index: 2, Old: 10, New: 10, OK: true}) {
		t.Error("Load logged", a)
	}
	if v := m.Add(6, 2, -3); v != 7 {
		t.Error("Add returned", v)
	}
	if a := lastAccess(t, m, 3); a != (api.Access{Thread: 6, Kind: api.AccessAdd, Index: 2, Old: 10, New: 7, OK: true}) {
		t.Error("Add logged", a)
	}
	if m.Word(0) != 0 || m.Word(1) != 0 || m.Word(2) != 7 || len(m.Log()) != 3 {
		t.Error("the words are", m.Word(0), m.Word(1), m.Word(2))
	}
}

// P1.1, A2: a CompareAndSwap that succeeds, one that fails, and one that succeeds without a change.
func TestCompareAndSwap(t *testing.T) {
	m := shmem.New(2, 0)
	if !m.CompareAndSwap(7, 1, 0, 5) || m.Word(1) != 5 {
		t.Error("it failed on an equal value")
	}
	if a := lastAccess(t, m, 1); a != (api.Access{Thread: 7, Kind: api.AccessCAS, Index: 1, Old: 0, New: 5, OK: true}) {
		t.Error("success logged", a)
	}
	if m.CompareAndSwap(8, 1, 4, 6) || m.Word(1) != 5 {
		t.Error("it succeeded on another value")
	}
	if a := lastAccess(t, m, 2); a != (api.Access{Thread: 8, Kind: api.AccessCAS, Index: 1, Old: 5, New: 5, OK: false}) {
		t.Error("failure logged", a)
	}
	if m.CompareAndSwap(8, 1, 4, 5) || m.Word(1) != 5 {
		t.Error("it succeeded on another value because the new one is there")
	}
	if !m.CompareAndSwap(9, 1, 5, 5) || m.Word(1) != 5 {
		t.Error("it failed with equal old and new values")
	}
	if a := lastAccess(t, m, 4); a != (api.Access{Thread: 9, Kind: api.AccessCAS, Index: 1, Old: 5, New: 5, OK: true}) {
		t.Error("success without a change logged", a)
	}
}

// P1.1, A2: arithmetic modulo 2^64.
func TestAddWrapsAround(t *testing.T) {
	cases := []struct{ start, d, want int }{
		{math.MaxInt, 1, math.MinInt},
		{math.MinInt, -1, math.MaxInt},
		{math.MinInt, math.MinInt, 0},
		{math.MaxInt, math.MaxInt, -2},
		{-1, 1, 0},
		{1 << 62, 1 << 62, math.MinInt},
	}
	for _, c := range cases {
		m := shmem.New(1, 0)
		m.Store(0, 0, c.start)
		if v := m.Add(0, 0, c.d); v != c.want || m.Word(0) != c.want {
			t.Errorf("%d + %d = %d, word %d, want %d", c.start, c.d, v, m.Word(0), c.want)
		}
		if a := lastAccess(t, m, 2); a.Old != c.start || a.New != c.want || !a.OK {
			t.Error("the log has", a)
		}
	}
}

// P1.1, A2: an index of no word changes nothing and logs nothing, even if it is the index of a mutex.
func TestNoSuchWord(t *testing.T) {
	for _, n := range []int{0, 1, 3} {
		m := shmem.New(n, 200)
		for i := range n {
			m.Store(0, i, 40+i)
		}
		for _, i := range outside(n) {
			m.Store(1, i, 5)
			if m.Load(1, i) != 0 || m.Add(1, i, 5) != 0 || m.Word(i) != 0 {
				t.Errorf("there is a word %d of %d", i, n)
			}
			if m.CompareAndSwap(1, i, 0, 5) || m.CompareAndSwap(1, i, 0, 0) {
				t.Errorf("CompareAndSwap of word %d of %d succeeded", i, n)
			}
		}
		for i := range n {
			if m.Word(i) != 40+i {
				t.Errorf("word %d has changed to %d", i, m.Word(i))
			}
		}
		if len(m.Log()) != n || m.Violations() != 0 {
			t.Error("the accesses left", m.Log(), m.Violations())
		}
	}
}

// P1.1, A3: the results and the logged accesses of the operations on mutexes.
func TestMutexOperations(t *testing.T) {
	m := shmem.New(0, 2)
	if !m.TryLock(3, 1) || m.Holder(1) != 3 || m.Holder(0) != -1 {
		t.Error("TryLock of a free mutex")
	}
	if a := lastAccess(t, m, 1); a != (api.Access{Thread: 3, Kind: api.AccessLock, Index: 1, Old: 0, New: 1, OK: true}) {
		t.Error("TryLock logged", a)
	}
	if m.TryLock(4, 1) || m.Holder(1) != 3 {
		t.Error("TryLock of a mutex that another thread holds")
	}
	if a := lastAccess(t, m, 2); a != (api.Access{Thread: 4, Kind: api.AccessLock, Index: 1, Old: 1, New: 1, OK: false}) {
		t.Error("failed TryLock logged", a)
	}
	if m.TryLock(3, 1) || m.Holder(1) != 3 {
		t.Error("TryLock by the holder itself")
	}
	if a := lastAccess(t, m, 3); a != (api.Access{Thread: 3, Kind: api.AccessLock, Index: 1, Old: 1, New: 1, OK: false}) {
		t.Error("TryLock by the holder logged", a)
	}
	if m.Violations() != 0 {
		t.Error("TryLock counted a violation")
	}
	if !m.Unlock(3, 1) || m.Holder(1) != -1 || m.Violations() != 0 {
		t.Error("Unlock by the holder")
	}
	if a := lastAccess(t, m, 4); a != (api.Access{Thread: 3, Kind: api.AccessUnlock, Index: 1, Old: 1, New: 0, OK: true}) {
		t.Error("Unlock logged", a)
	}
	if !m.TryLock(4, 1) || m.Holder(1) != 4 {
		t.Error("TryLock of a mutex that was freed")
	}
}

// P1.1, A3: an Unlock by a thread that does not hold the mutex fails and counts a violation.
func TestUnlockByOthers(t *testing.T) {
	m := shmem.New(0, 1)
	if m.Unlock(0, 0) || m.Violations() != 1 || m.Holder(0) != -1 {
		t.Error("Unlock of a free mutex")
	}
	if a := lastAccess(t, m, 1); a != (api.Access{Thread: 0, Kind: api.AccessUnlock, Index: 0, Old: 0, New: 0, OK: false}) {
		t.Error("Unlock of a free mutex logged", a)
	}
	m.TryLock(0, 0)
	if m.Unlock(1, 0) || m.Violations() != 2 || m.Holder(0) != 0 {
		t.Error("Unlock by another thread")
	}
	if a := lastAccess(t, m, 3); a != (api.Access{Thread: 1, Kind: api.AccessUnlock, Index: 0, Old: 1, New: 1, OK: false}) {
		t.Error("Unlock by another thread logged", a)
	}
	if !m.Unlock(0, 0) || m.Unlock(0, 0) || m.Violations() != 3 {
		t.Error("the second Unlock by the former holder")
	}
}

// P1.1, A3 and A4: an index of no mutex, even if it is the index of a word. Only Touch counts a violation for it.
func TestNoSuchMutex(t *testing.T) {
	for _, n := range []int{0, 1, 3} {
		m := shmem.New(200, n)
		touched := 0
		for _, i := range outside(n) {
			if m.TryLock(0, i) || m.Unlock(0, i) || m.Holder(i) != -1 {
				t.Errorf("there is a mutex %d of %d", i, n)
			}
			if m.Violations() != touched {
				t.Errorf("Unlock of mutex %d of %d counted a violation", i, n)
			}
			if m.Touch(0, i) {
				t.Errorf("Touch of mutex %d of %d succeeded", i, n)
			}
			touched++
			if m.Violations() != touched {
				t.Errorf("Touch of mutex %d of %d: %d violations, want %d", i, n, m.Violations(), touched)
			}
		}
		for i := range n {
			if m.Holder(i) != -1 {
				t.Errorf("mutex %d is held", i)
			}
		}
		if len(m.Log()) != 0 {
			t.Error("the accesses were logged:", m.Log())
		}
	}
}

// P1.1, A4: Touch of a free mutex, by the holder, and by another thread. It logs nothing and changes no holder.
func TestTouch(t *testing.T) {
	m := shmem.New(0, 2)
	if m.Touch(0, 0) || m.Violations() != 1 {
		t.Error("Touch of a free mutex")
	}
	m.TryLock(0, 0)
	if !m.Touch(0, 0) || m.Violations() != 1 {
		t.Error("Touch by the holder")
	}
	if m.Touch(1, 0) || m.Touch(0, 1) || m.Violations() != 3 {
		t.Error("Touch without holding the mutex")
	}
	m.Unlock(0, 0)
	if m.Touch(0, 0) || m.Violations() != 4 {
		t.Error("Touch by the former holder")
	}
	if len(m.Log()) != 2 || m.Holder(0) != -1 || m.Holder(1) != -1 {
		t.Error("Touch left", m.Log(), m.Holder(0), m.Holder(1))
	}
}

// P1.1, A4: the result of Log is a copy.
func TestLogIsACopy(t *testing.T) {
	m := shmem.New(1, 0)
	m.Store(0, 0, 1)
	m.Store(0, 0, 2)
	m.Store(0, 0, 3)
	before := m.Log()
	kept := slices.Clone(before)
	m.Store(0, 0, 4)
	if !slices.Equal(before, kept) {
		t.Error("a later access changed an earlier log")
	}
	_ = append(before[:1], api.Access{Thread: 77})
	before[0] = api.Access{Thread: 88}
	if l := m.Log(); len(l) != 4 || !slices.Equal(l[:3], kept) {
		t.Error("the caller changed the log:", l)
	}
}

// P1: the nil that New returns for invalid sizes, and a zero Memory, do not panic.
func TestNoMemory(t *testing.T) {
	for _, m := range []*shmem.Memory{shmem.New(-1, 0), {}} {
		for _, i := range outside(0) {
			m.Store(0, i, 1)
			if m.Load(0, i) != 0 || m.Add(0, i, 1) != 0 || m.Word(i) != 0 || m.CompareAndSwap(0, i, 0, 1) {
				t.Error("there is a word", i)
			}
			if m.TryLock(0, i) || m.Unlock(0, i) || m.Touch(0, i) || m.Holder(i) != -1 {
				t.Error("there is a mutex", i)
			}
		}
		if len(m.Log()) != 0 || m.Violations() < 0 {
			t.Error("there are accesses", m.Log(), m.Violations())
		}
	}
}

// P1: negative thread numbers do not panic; what they return is unspecified.
func TestNegativeThreads(t *testing.T) {
	for _, thread := range []int{-1, math.MinInt} {
		m := shmem.New(1, 1)
		m.Load(thread, 0)
		m.Store(thread, 0, 1)
		m.Add(thread, 0, 1)
		m.CompareAndSwap(thread, 0, 2, 3)
		m.Touch(thread, 0)
		m.TryLock(thread, 0)
		m.Touch(thread, 0)
		m.Unlock(thread, 0)
	}
}
