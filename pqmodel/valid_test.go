package pqmodel_test

import (
	"math"
	"slices"
	"testing"

	"ropeladder/api"
	"ropeladder/pqmodel"
)

// slowValid reads the definition of a valid model word by word.
func slowValid(m api.Model) bool {
	if m.Cap < 1 || m.Cap > 64 || len(m.Entries) > m.Cap || m.Next != len(m.Issued) {
		return false
	}
	for i, h := range m.Issued {
		if h < 0 || h > lastHandle || slices.Contains(m.Issued[:i], h) {
			return false
		}
	}
	for i, e := range m.Entries {
		if e.Time < 0 || e.Time > lastTime || e.Seq < 0 || e.Seq > m.Next-1 || !slices.Contains(m.Issued, e.Handle) {
			return false
		}
		for _, before := range m.Entries[:i] {
			if before.Seq == e.Seq || before.Handle == e.Handle {
				return false
			}
			if before.Time > e.Time || before.Time == e.Time && before.Seq > e.Seq {
				return false
			}
		}
	}
	return true
}

// change is a sample with a change of a few fields.
type change struct {
	what  string
	apply func(m *api.Model)
}

func changed(c change) api.Model {
	m := sample()
	c.apply(&m)
	return m
}

// crowd returns a model with that many entries, and that capacity.
func crowd(n int, capacity int) api.Model {
	m := api.Model{Cap: capacity, Next: n}
	for i := range n {
		m.Entries = append(m.Entries, api.Entry{Time: i / 3, Seq: i, Handle: n - i})
		m.Issued = append(m.Issued, n-i)
	}
	return m
}

// sound are changes after which the sample is still valid: bounds that belong to the ranges, and what the definition leaves open.
func sound() []change {
	return []change{
		{"nothing", func(m *api.Model) {}},
		{"as many entries as Cap", func(m *api.Model) { m.Cap = 6 }},
		{"last Cap", func(m *api.Model) { m.Cap = 64 }},
		{"least model", func(m *api.Model) { *m = api.Model{Cap: 1} }},
		{"slices not nil", func(m *api.Model) { *m = api.Model{Cap: 1, Entries: []api.Entry{}, Issued: []int{}} }},
		{"one entry", func(m *api.Model) { *m = crowd(1, 1) }},
		{"64 entries", func(m *api.Model) { *m = crowd(64, 64) }},
		{"no entries", func(m *api.Model) { m.Entries = nil }},
		{"Time 0 of several entries", func(m *api.Model) { m.Entries[0].Seq, m.Entries[1].Time, m.Entries[1].Seq = 1, 0, 4 }},
		{"last Time of two entries", func(m *api.Model) { m.Entries[4].Time = lastTime }},
		{"last Time of all entries", func(m *api.Model) {
			for i := range m.Entries {
				m.Entries[i].Time, m.Entries[i].Seq = lastTime, i
			}
		}},
		{"Seq 0 of another entry", func(m *api.Model) { m.Entries[1].Seq, m.Entries[5].Seq = 1, 0 }},
		{"decreasing Seqs", func(m *api.Model) {
			for i := range m.Entries {
				m.Entries[i].Time, m.Entries[i].Seq = i, 8-i
			}
		}},
		{"all dead", func(m *api.Model) {
			for i := range m.Entries {
				m.Entries[i].Dead = true
			}
		}},
		{"none dead", func(m *api.Model) { m.Entries[0].Dead, m.Entries[2].Dead = false, false }},
		{"another handle that was issued", func(m *api.Model) { m.Entries[4].Handle = 66 }},
		{"another order of Issued", func(m *api.Model) { slices.Sort(m.Issued) }},
		{"more handles issued", func(m *api.Model) { m.Issued, m.Next = append(m.Issued, 3, 4), 11 }},
		{"last handle of an event that left", func(m *api.Model) { m.Issued[1] = lastHandle - 1 }},
		{"entries without the last handle", func(m *api.Model) { m.Entries = m.Entries[:3] }},
	}
}

// flaws are changes of the sample, each of which breaks one condition of the definition alone.
func flaws() []change {
	return slices.Concat(flawsOfEntries(), flawsOfOrder(), flawsOfIssued(), []change{
		{"Cap 0", func(m *api.Model) { *m = api.Model{} }},
		{"Cap 0, slices not nil", func(m *api.Model) { *m = api.Model{Entries: []api.Entry{}, Issued: []int{}} }},
		{"Cap -1", func(m *api.Model) { *m = api.Model{Cap: -1} }},
		{"least Cap", func(m *api.Model) { *m = api.Model{Cap: math.MinInt} }},
		{"Cap 65", func(m *api.Model) { m.Cap = 65 }},
		{"greatest Cap", func(m *api.Model) { m.Cap = math.MaxInt }},
		{"Cap 65 of 65 entries", func(m *api.Model) { *m = crowd(65, 65) }},
		{"Cap 64 of 65 entries", func(m *api.Model) { *m = crowd(65, 64) }},
		{"Cap 5 of 6 entries", func(m *api.Model) { m.Cap = 5 }},
		{"Cap 1 of 6 entries", func(m *api.Model) { m.Cap = 1 }},
	})
}

func flawsOfEntries() []change {
	return []change{
		{"Time -1", func(m *api.Model) { m.Entries[0].Time = -1 }},
		{"least Time", func(m *api.Model) { m.Entries[0].Time = math.MinInt }},
		{"Time -1 of a pending entry", func(m *api.Model) { m.Entries = m.Entries[1:]; m.Entries[0].Time = -1 }},
		{"Time beyond the last", func(m *api.Model) { m.Entries[5].Time = lastTime + 1 }},
		{"greatest Time", func(m *api.Model) { m.Entries[5].Time = math.MaxInt }},
		{"Time of a dead entry beyond the last", func(m *api.Model) { m.Entries[5].Time, m.Entries[5].Dead = lastTime+1, true }},
		{"Seq -1", func(m *api.Model) { m.Entries[1].Seq = -1 }},
		{"Seq -1 of a dead entry", func(m *api.Model) { m.Entries[0].Seq = -1 }},
		{"least Seq", func(m *api.Model) { m.Entries[4].Seq = math.MinInt }},
		{"Seq that is Next", func(m *api.Model) { m.Entries[5].Seq = 9 }},
		{"Seq of a dead entry that is Next", func(m *api.Model) { m.Entries[0].Seq = 9 }},
		{"greatest Seq", func(m *api.Model) { m.Entries[4].Seq = math.MaxInt }},
		{"equal Seqs of neighbors", func(m *api.Model) { m.Entries[4].Seq = 8 }},
		{"equal Seqs and Times of neighbors", func(m *api.Model) { m.Entries[2].Seq = 0 }},
		{"equal Seqs far apart", func(m *api.Model) { m.Entries[5].Seq = 5 }},
		{"equal handles of neighbors", func(m *api.Model) { m.Entries[4].Handle = 0 }},
		{"equal handles at the same time", func(m *api.Model) { m.Entries[3].Handle = 7 }},
		{"equal handles far apart", func(m *api.Model) { m.Entries[5].Handle = 130 }},
		{"equal handles of dead entries", func(m *api.Model) { m.Entries[2].Handle = 130 }},
		{"handle that was not issued", func(m *api.Model) { m.Entries[1].Handle = 3 }},
		{"handle of a dead entry that was not issued", func(m *api.Model) { m.Entries[2].Handle = 3 }},
		{"handle of the last entry that was not issued", func(m *api.Model) { m.Entries[5].Handle = 65 }},
		{"handle -1", func(m *api.Model) { m.Entries[4].Handle = -1 }},
		{"handle beyond the last", func(m *api.Model) { m.Entries[3].Handle = lastHandle + 1 }},
	}
}

func flawsOfOrder() []change {
	swap := func(i int, k int) func(m *api.Model) {
		return func(m *api.Model) { m.Entries[i], m.Entries[k] = m.Entries[k], m.Entries[i] }
	}
	return []change{
		{"first two entries exchanged", swap(0, 1)},
		{"last two entries exchanged", swap(4, 5)},
		{"first and last entry exchanged", swap(0, 5)},
		{"two entries of one time exchanged", swap(1, 2)},
		{"two other entries of one time exchanged", swap(2, 3)},
		{"outer entries of one time exchanged", swap(1, 3)},
		{"all entries reversed", func(m *api.Model) { slices.Reverse(m.Entries) }},
		{"Time less than that of the entry before", func(m *api.Model) { m.Entries[4].Time = 9 }},
		{"Time equal to that of the entry before, with a lesser Seq", func(m *api.Model) { m.Entries[4].Time = 10 }},
	}
}

func flawsOfIssued() []change {
	return []change{
		{"Next 8", func(m *api.Model) { m.Entries = m.Entries[:5]; m.Next = 8 }},
		{"Next 10", func(m *api.Model) { m.Next = 10 }},
		{"Next 1 of an empty model", func(m *api.Model) { *m = api.Model{Cap: 1, Next: 1} }},
		{"Next 0 of an empty model", func(m *api.Model) { m.Entries, m.Next = nil, 0 }},
		{"Next -1", func(m *api.Model) { *m = api.Model{Cap: 1, Next: -1} }},
		{"least Next", func(m *api.Model) { *m = api.Model{Cap: 1, Next: math.MinInt} }},
		{"greatest Next", func(m *api.Model) { m.Next = math.MaxInt }},
		{"Issued empty", func(m *api.Model) { *m = api.Model{Cap: 1, Next: 3} }},
		{"Issued lacks the last handle", func(m *api.Model) { m.Entries = m.Entries[:5]; m.Issued = m.Issued[:8] }},
		{"Issued has one handle more than Next", func(m *api.Model) { m.Issued = append(m.Issued, 3) }},
		{"Issued has a handle of an event that left twice", func(m *api.Model) { m.Issued, m.Next = append(m.Issued, 66), 10 }},
		{"Issued has a handle of an entry twice", func(m *api.Model) { m.Issued, m.Next = append(m.Issued, 7), 10 }},
		{"Issued has neighbors that are equal", func(m *api.Model) { m.Issued[1] = 7 }},
		{"Issued has the same handle twice, without entries", func(m *api.Model) { *m = api.Model{Cap: 1, Next: 2, Issued: []int{4, 4}} }},
		{"Issued has -1", func(m *api.Model) { m.Issued[1] = -1 }},
		{"Issued has an entry's handle -1", func(m *api.Model) { m.Issued[2], m.Entries[4].Handle = -1, -1 }},
		{"Issued has the least integer", func(m *api.Model) { m.Issued[4] = math.MinInt }},
		{"Issued has the integer after the last handle", func(m *api.Model) { m.Issued[6] = lastHandle + 1 }},
		{"Issued has an entry's handle after the last one", func(m *api.Model) { m.Issued[7], m.Entries[3].Handle = lastHandle+1, lastHandle+1 }},
		{"Issued has the greatest integer", func(m *api.Model) { m.Issued[6] = math.MaxInt }},
	}
}

// P10.1, J1: models that keep all conditions, and models that break one of them alone.
func TestValid(t *testing.T) {
	for _, c := range sound() {
		if m := changed(c); !pqmodel.Valid(m) || !slowValid(m) {
			t.Errorf("with %s, Valid is %t for %v", c.what, pqmodel.Valid(m), m)
		}
	}
	for _, c := range flaws() {
		if m := changed(c); pqmodel.Valid(m) || slowValid(m) {
			t.Errorf("with %s, Valid is %t for %v", c.what, pqmodel.Valid(m), m)
		}
	}
}

// P10.1, J1: each field of each entry of the sample, and each of the other numbers, takes each of some values by itself.
func TestValidOneNumberChanged(t *testing.T) {
	values := append([]int{2, 3, 4, 5, 6, 7, 8, 9, 10, 11, 39, 40, 41, 64, 65, 66, 130, lastTime - 1, lastTime + 2, lastHandle - 1, lastHandle + 2}, extremes...)
	for _, v := range values {
		for i := range sample().Entries {
			for _, set := range []func(e *api.Entry){
				func(e *api.Entry) { e.Time = v },
				func(e *api.Entry) { e.Seq = v },
				func(e *api.Entry) { e.Handle = v },
			} {
				m := sample()
				set(&m.Entries[i])
				checkValid(t, m)
				m.Entries[i].Dead = !m.Entries[i].Dead
				checkValid(t, m)
			}
		}
		for i := range sample().Issued {
			m := sample()
			m.Issued[i] = v
			checkValid(t, m)
		}
		m := sample()
		m.Cap = v
		checkValid(t, m)
		m = sample()
		m.Next = v
		checkValid(t, m)
	}
}

func checkValid(t *testing.T, m api.Model) {
	t.Helper()
	if got, want := pqmodel.Valid(m), slowValid(m); got != want {
		t.Fatalf("Valid(%v) = %t, want %t", m, got, want)
	}
}

// entriesOf returns all entries with these times, sequence numbers and handles.
func entriesOf(times []int, seqs []int, handles []int) []api.Entry {
	var entries []api.Entry
	for _, time := range times {
		for _, seq := range seqs {
			for _, h := range handles {
				entries = append(entries, api.Entry{Time: time, Seq: seq, Handle: h, Dead: (seq+h)%2 == 0})
			}
		}
	}
	return entries
}

// P10.1, J1: all models of at most one entry with fields at and next to their bounds.
func TestValidOneEntry(t *testing.T) {
	entries := entriesOf([]int{-1, 0, 1, lastTime, lastTime + 1}, []int{-1, 0, 1, 2}, []int{-1, 0, 1, lastHandle, lastHandle + 1})
	for _, issued := range [][]int{nil, {-1}, {0}, {1}, {lastHandle}, {lastHandle + 1}, {0, 0}, {0, 1}, {1, -1}, {1, lastHandle}} {
		for _, capacity := range []int{-1, 0, 1, 2, 64, 65} {
			for _, next := range []int{-1, 0, 1, 2, 3} {
				checkValid(t, api.Model{Cap: capacity, Next: next, Issued: issued})
				for _, e := range entries {
					checkValid(t, api.Model{Cap: capacity, Entries: []api.Entry{e}, Next: next, Issued: issued})
				}
			}
		}
	}
}

// P10.1, J1: all models of two and three entries with few values of each field, for the conditions that concern several entries.
func TestValidFewEntries(t *testing.T) {
	entries := entriesOf([]int{0, 1}, []int{0, 1, 2}, []int{0, 1, 2})
	for _, a := range entries {
		for _, b := range entries {
			for _, issued := range [][]int{{0, 1}, {1, 2}, {2, 1, 0}, {0, 1, 1}} {
				for capacity := 1; capacity <= 3; capacity++ {
					checkValid(t, api.Model{Cap: capacity, Entries: []api.Entry{a, b}, Next: len(issued), Issued: issued})
				}
			}
			for _, c := range entries {
				checkValid(t, api.Model{Cap: 3, Entries: []api.Entry{a, b, c}, Next: 3, Issued: []int{2, 0, 1}})
			}
		}
	}
}

// P10.1, J1: a model may have issued many handles.
func TestValidManyIssued(t *testing.T) {
	m := api.Model{Cap: 64, Next: 10000}
	for i := range m.Next {
		m.Issued = append(m.Issued, 3*i)
	}
	m.Entries = []api.Entry{{Time: 1, Seq: 9999, Handle: 3 * 9999}, {Time: 2, Seq: 0, Handle: 0}}
	if !pqmodel.Valid(m) {
		t.Error("Valid is false for a model with 10000 issued handles")
	}
	m.Issued[5000] = 3 * 9999
	if pqmodel.Valid(m) {
		t.Error("Valid is true for a model that issued a handle twice")
	}
}
