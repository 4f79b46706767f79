// Package shmem simulates an instrumented shared memory (see shared/doc/01-shmem.md).
package shmem

import (
	"slices"

	"ropeladder/api"
)

// journal is the access log. Memory embeds it, so that all operations record their accesses with the same method.
type journal struct {
	accesses []api.Access
}

func (j *journal) record(a api.Access) {
	j.accesses = append(j.accesses, a)
}

// Memory is a shared memory of atomic words and mutexes with an access log.
type Memory struct {
	journal
	words      cells[int]
	mutexes    cells[owner]
	violations int
}

// New returns a memory of zero words and unlocked mutexes, or nil.
func New(words int, mutexes int) *Memory {
	if !validSize(words) || !validSize(mutexes) {
		return nil
	}
	return &Memory{words: newCells[int](words), mutexes: newCells[owner](mutexes)}
}

func validSize(n int) bool {
	return n >= 0 && n <= api.MaxWords
}

// word returns the value of word i. A nil memory has no words, because New may have returned it.
func (m *Memory) word(i int) (int, bool) {
	if m == nil {
		return 0, false
	}
	return m.words.get(i)
}

// mutex returns the owner of mutex i. A nil memory has no mutexes, because New may have returned it.
func (m *Memory) mutex(i int) (owner, bool) {
	if m == nil {
		return owner{}, false
	}
	return m.mutexes.get(i)
}

// accessWord is the only way to change a word, so that no change can be missing from the log.
func (m *Memory) accessWord(thread int, kind int, i int, next int, ok bool) {
	old := m.words.replace(i, next)
	m.record(api.Access{Thread: thread, Kind: kind, Index: i, Old: old, New: next, OK: ok})
}

// accessMutex is the only way to change a mutex, so that no change can be missing from the log.
func (m *Memory) accessMutex(thread int, kind int, i int, next owner, ok bool) {
	old := m.mutexes.replace(i, next)
	m.record(api.Access{Thread: thread, Kind: kind, Index: i, Old: old.logged(), New: next.logged(), OK: ok})
}

// Load returns the value of a word.
func (m *Memory) Load(thread int, i int) int {
	v, exists := m.word(i)
	if !exists {
		return 0
	}
	m.accessWord(thread, api.AccessLoad, i, v, true)
	return v
}

// Store sets the value of a word.
func (m *Memory) Store(thread int, i int, v int) {
	if _, exists := m.word(i); exists {
		m.accessWord(thread, api.AccessStore, i, v, true)
	}
}

// Add adds d to a word and returns the new value.
func (m *Memory) Add(thread int, i int, d int) int {
	v, exists := m.word(i)
	if !exists {
		return 0
	}
	m.accessWord(thread, api.AccessAdd, i, v+d, true)
	return v + d
}

// CompareAndSwap replaces the value of a word if it equals old.
func (m *Memory) CompareAndSwap(thread int, i int, old int, new int) bool {
	v, exists := m.word(i)
	if !exists {
		return false
	}
	equal := v == old
	if equal {
		v = new
	}
	m.accessWord(thread, api.AccessCAS, i, v, equal)
	return equal
}

// TryLock acquires a mutex if it is free.
func (m *Memory) TryLock(thread int, i int) bool {
	o, exists := m.mutex(i)
	if !exists {
		return false
	}
	free := !o.held
	if free {
		o = owner{held: true, thread: thread}
	}
	m.accessMutex(thread, api.AccessLock, i, o, free)
	return free
}

// Unlock releases a mutex. It counts a violation only for a mutex that exists, unlike Touch.
func (m *Memory) Unlock(thread int, i int) bool {
	o, exists := m.mutex(i)
	if !exists {
		return false
	}
	own := o.heldBy(thread)
	if own {
		o = owner{}
	} else {
		m.violations++
	}
	m.accessMutex(thread, api.AccessUnlock, i, o, own)
	return own
}

// Holder returns the thread that holds a mutex, or -1.
func (m *Memory) Holder(i int) int {
	if o, exists := m.mutex(i); exists && o.held {
		return o.thread
	}
	return -1
}

// Touch declares an access to data that is guarded by a mutex.
func (m *Memory) Touch(thread int, i int) bool {
	if m == nil {
		return false
	}
	if o, exists := m.mutex(i); exists && o.heldBy(thread) {
		return true
	}
	m.violations++
	return false
}

// Violations returns the number of failed calls of Touch, and of Unlock on mutexes that exist.
func (m *Memory) Violations() int {
	if m == nil {
		return 0
	}
	return m.violations
}

// Log returns a copy of the access log.
func (m *Memory) Log() []api.Access {
	if m == nil {
		return nil
	}
	return slices.Clone(m.accesses)
}

// Word returns the value of a word without logging an access.
func (m *Memory) Word(i int) int {
	v, _ := m.word(i)
	return v
}
