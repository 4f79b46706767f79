package pqmodel

import (
	"slices"

	"ropeladder/api"
	"ropeladder/handle"
)

// Valid reports whether a model satisfies its invariants.
func Valid(m api.Model) bool {
	return validCapacity(m.Cap) && len(m.Entries) <= m.Cap && m.Next == len(m.Issued) && validIssued(m.Issued) && validEntries(m)
}

func validCapacity(capacity int) bool { return 1 <= capacity && capacity <= api.MaxSlots }

func validTime(time int) bool { return 0 <= time && time <= api.MaxTime }

func validIssued(issued []int) bool {
	return all(issued, handle.Valid) && distinct(issued, func(h int) int { return h })
}

// validEntries relies on distinct numbers: with them, entries in nondecreasing order are in a strictly increasing one.
func validEntries(m api.Model) bool {
	return all(m.Entries, func(e api.Entry) bool { return validEntry(m, e) }) &&
		slices.IsSortedFunc(m.Entries, compareEntries) &&
		distinct(m.Entries, func(e api.Entry) int { return e.Seq }) &&
		distinct(m.Entries, func(e api.Entry) int { return e.Handle })
}

// validEntry checks what concerns one entry alone.
func validEntry(m api.Model, e api.Entry) bool {
	return validTime(e.Time) && 0 <= e.Seq && e.Seq < m.Next && slices.Contains(m.Issued, e.Handle)
}

func all[E any](list []E, holds func(E) bool) bool {
	return !slices.ContainsFunc(list, func(e E) bool { return !holds(e) })
}

// distinct reports whether no two elements of a list have the same number.
func distinct[E any](list []E, number func(E) int) bool {
	seen := map[int]bool{}
	for _, e := range list {
		seen[number(e)] = true
	}
	return len(seen) == len(list)
}
