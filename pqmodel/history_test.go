package pqmodel_test

import (
	"maps"
	"math"
	"slices"
	"testing"

	"ropeladder/api"
	"ropeladder/pqmodel"
)

// record is what became of an inserted event.
type record struct {
	time, seq, handle int
	cancelled, left   bool
}

// history is a model and the events that were inserted into it, in the order of their insertion, none of which is ever removed here.
type history struct {
	model     api.Model
	records   []record
	issued    []int
	extracted map[int]bool // by handle
}

// begin starts a history at a model, whose entries it takes as inserted.
func begin(m api.Model) history {
	h := history{model: m, issued: slices.Clone(m.Issued), extracted: map[int]bool{}}
	for seq := range m.Next {
		for _, e := range m.Entries {
			if e.Seq == seq {
				h.records = append(h.records, record{time: e.Time, seq: seq, handle: e.Handle, cancelled: e.Dead})
			}
		}
	}
	return h
}

func (h history) copy() history {
	return history{model: h.model, records: slices.Clone(h.records), issued: slices.Clone(h.issued), extracted: maps.Clone(h.extracted)}
}

// present returns the number of events that have not left.
func (h history) present() int {
	n := 0
	for _, r := range h.records {
		if !r.left {
			n++
		}
	}
	return n
}

// first returns the index of the event that is the next one to leave, or -1: of those with the least time, the one that was inserted first.
func (h history) first() int {
	best := -1
	for i, r := range h.records {
		if !r.left && (best < 0 || r.time < h.records[best].time) {
			best = i
		}
	}
	return best
}

func (h *history) insert(c api.Call, handle int) api.Result {
	switch {
	case c.Time < 0 || c.Time > lastTime:
		return failure(api.ErrArgument)
	case h.present() == h.model.Cap:
		return failure(api.ErrFull)
	case handle < 0 || handle > lastHandle || slices.Contains(h.issued, handle):
		return failure(api.ErrArgument)
	}
	h.records = append(h.records, record{time: c.Time, seq: len(h.issued), handle: handle})
	h.issued = append(h.issued, handle)
	return issued(handle)
}

func (h *history) cancel(c api.Call) api.Result {
	for i, r := range h.records {
		if r.handle == c.Handle && !r.left && !r.cancelled {
			h.records[i].cancelled = true
			return api.Result{Cancelled: true}
		}
	}
	return api.Result{}
}

func (h *history) batch(c api.Call) api.Result {
	if c.Max < 0 || c.Max > 64 {
		return failure(api.ErrArgument)
	}
	var result api.Result
	for len(result.Events) < c.Max {
		i := h.first()
		if i < 0 || h.records[i].time >= c.Bound {
			break
		}
		h.records[i].left = true
		if !h.records[i].cancelled {
			result.Events = append(result.Events, api.Event{Time: h.records[i].time, Handle: h.records[i].handle})
		}
	}
	return result
}

// expect returns the result that a call must have.
func (h *history) expect(c api.Call, handle int) api.Result {
	switch c.Kind {
	case api.CallInsert:
		return h.insert(c, handle)
	case api.CallCancel:
		return h.cancel(c)
	case api.CallBatch:
		return h.batch(c)
	}
	return failure(api.ErrArgument)
}

// expectedModel returns the model that the records describe.
func (h history) expectedModel() api.Model {
	m := api.Model{Cap: h.model.Cap, Next: len(h.issued), Issued: h.issued}
	for _, r := range h.records {
		if !r.left {
			m.Entries = append(m.Entries, api.Entry{Time: r.time, Seq: r.seq, Handle: r.handle, Dead: r.cancelled})
		}
	}
	slices.SortStableFunc(m.Entries, func(a api.Entry, b api.Entry) int { return a.Time - b.Time })
	return m
}

// do executes a call and checks its result and the model (P10.1), that the model is valid (P10.2), and that the result is accepted if it is the one for its own handle.
func (h *history) do(t *testing.T, c api.Call, handle int) api.Result {
	t.Helper()
	before := h.model
	want := h.expect(c, handle)
	m, r := pqmodel.Do(before, c, handle)
	if !sameResult(r, want) || !sameModel(m, h.expectedModel()) {
		t.Fatalf("Do(%v, %+v, %d) = %v, %+v, want %v, %+v", before, c, handle, m, r, h.expectedModel(), want)
	}
	if !pqmodel.Valid(m) || !slowValid(m) {
		t.Fatalf("Do(%v, %+v, %d) = %v, which is not valid", before, c, handle, m)
	}
	if r.Err == api.OK {
		checkAccepted(t, before, c, r, m)
	}
	h.model = m
	h.checkEvents(t, r.Events)
	return r
}

// checkEvents checks that the events are in order of time, and of insertion for equal times, and that none of them was extracted before or cancelled (P10.3).
func (h *history) checkEvents(t *testing.T, l []api.Event) {
	t.Helper()
	for i, e := range l {
		if i > 0 {
			before := l[i-1]
			if before.Time > e.Time || before.Time == e.Time && slices.Index(h.issued, before.Handle) > slices.Index(h.issued, e.Handle) {
				t.Fatalf("the event %v is extracted before %v; issued are %v", before, e, h.issued)
			}
		}
		cancelled := slices.ContainsFunc(h.records, func(r record) bool { return r.handle == e.Handle && r.cancelled })
		if h.extracted[e.Handle] || cancelled {
			t.Fatalf("the event %v is extracted; extracted before: %t, cancelled: %t", e, h.extracted[e.Handle], cancelled)
		}
		h.extracted[e.Handle] = true
	}
}

// fresh returns a handle that was not issued; such handles are not ordered like the insertions.
func (h history) fresh() int {
	n := len(h.issued)
	for slices.Contains(h.issued, (29*n+17)%1024) {
		n++
	}
	return (29*n + 17) % 1024
}

// explore checks all continuations of the history of that many calls, with insertions at the given times and batches with bounds at and next to them.
func explore(t *testing.T, h history, times []int, calls int) {
	t.Helper()
	if calls == 0 {
		return
	}
	follow := func(c api.Call, handle int) {
		branch := h.copy()
		branch.do(t, c, handle)
		explore(t, branch, times, calls-1)
	}
	for _, time := range times {
		follow(insertion(time), h.fresh())
		for _, most := range []int{0, 1, 2, 64} {
			follow(batch(most, time+1), 0)
		}
	}
	follow(batch(1, times[0]), 0)
	for _, k := range h.issued {
		follow(cancellation(k), 0)
	}
	// Calls that change nothing need no continuation.
	for _, k := range append([]int{-1, lastHandle + 1}, h.issued...) {
		last := h.copy()
		last.do(t, insertion(times[0]), k)
	}
}

// P10.1 to P10.4: all short histories of small models, also of models from which events have left.
func TestAllShortHistories(t *testing.T) {
	for capacity := 1; capacity <= 3; capacity++ {
		explore(t, begin(mustNew(t, capacity)), []int{5}, 5)
		explore(t, begin(mustNew(t, capacity)), []int{4, 5}, 4)
	}
	explore(t, begin(sample()), []int{10, 40}, 3)
	explore(t, begin(full()), []int{0, 10}, 3)
	explore(t, begin(crowd(5, 6)), []int{0, lastTime}, 3)
}

// numbers returns a generator of pseudo-random numbers below its argument, the same ones for the same seed.
func numbers(seed uint64) func(n int) int {
	state := seed*2654435761 + 1
	return func(n int) int {
		state = state*6364136223846793005 + 1442695040888963407
		return int(state>>33) % n
	}
}

// someTime returns one of a few times, so that many are equal, or one at an end of their range.
func someTime(next func(int) int) int {
	ends := []int{0, lastTime, lastTime - 1, -1, lastTime + 1}
	if n := next(30); n < len(ends) {
		return ends[n]
	}
	return next(12)
}

// someHandle returns an issued handle or an unknown one.
func (h history) someHandle(next func(int) int) int {
	if n := len(h.issued); n > 0 && next(8) > 0 {
		return h.issued[n-1-next(min(n, 100))]
	}
	return extremes[next(len(extremes))]
}

// someCall returns a call, most of which are valid, with all of its fields set.
func (h history) someCall(next func(int) int) api.Call {
	kinds := []int{api.CallInsert, api.CallInsert, api.CallInsert, api.CallInsert, api.CallCancel, api.CallCancel, api.CallBatch, api.CallBatch, 0, 4}
	c := api.Call{Kind: kinds[next(len(kinds))], Time: someTime(next), Handle: h.someHandle(next), Max: next(5), Bound: someTime(next) + next(2)}
	switch next(20) {
	case 0:
		c.Max = []int{-1, 64, 65}[next(3)]
	case 1:
		c.Bound = []int{math.MinInt, math.MaxInt}[next(2)]
	case 2:
		c.Kind = next(9) - 2
	}
	return c
}

func wander(t *testing.T, h history, next func(int) int, calls int) {
	t.Helper()
	for range calls {
		handle := h.fresh()
		if next(10) == 0 {
			handle = h.someHandle(next)
		}
		h.do(t, h.someCall(next), handle)
	}
	drain(t, h)
}

// drain checks that batches of one event return all events that were neither cancelled nor extracted, in order, and leave nothing.
func drain(t *testing.T, h history) {
	t.Helper()
	var pending []record
	for _, r := range h.records {
		if !r.left && !r.cancelled {
			pending = append(pending, r)
		}
	}
	slices.SortStableFunc(pending, func(a record, b record) int { return a.time - b.time })
	for _, want := range pending {
		r := h.do(t, batch(1, math.MaxInt), 0)
		if len(r.Events) != 1 || r.Events[0] != (api.Event{Time: want.time, Handle: want.handle}) {
			t.Fatalf("a batch of one event returns %v, want %+v", r.Events, want)
		}
	}
	if r := h.do(t, batch(1, math.MaxInt), 0); len(r.Events) > 0 || len(h.model.Entries) > 0 {
		t.Fatalf("a batch of no events returns %v and leaves %v", r.Events, h.model.Entries)
	}
}

// P10.1 to P10.4: long histories of models of all capacities.
func TestLongHistories(t *testing.T) {
	for capacity := 1; capacity <= 64; capacity++ {
		wander(t, begin(mustNew(t, capacity)), numbers(uint64(capacity)), 400)
	}
	for seed := range 20 {
		wander(t, begin(sample()), numbers(uint64(seed)), 300)
		wander(t, begin(full()), numbers(uint64(seed)), 300)
		wander(t, begin(crowd(64, 64)), numbers(uint64(seed)), 300)
	}
}

// P10.3: whatever is inserted and cancelled, one batch returns the events that remain in order, and batches of any sizes return the same ones.
func TestBatchSizes(t *testing.T) {
	for seed := range 30 {
		next := numbers(uint64(seed))
		h := begin(mustNew(t, 64))
		for range 64 {
			h.do(t, insertion(next(9)), h.fresh())
		}
		for range next(64) {
			h.do(t, cancellation(h.issued[next(64)]), 0)
		}
		rest := h.copy()
		all := rest.do(t, batch(64, math.MaxInt), 0).Events
		for size := 1; size <= 64; size += 1 + size/4 {
			parts := h.copy()
			var got []api.Event
			for range 64/size + 1 {
				got = append(got, parts.do(t, batch(size, 9), 0).Events...)
			}
			if !slices.Equal(got, all) || len(parts.model.Entries) > 0 {
				t.Fatalf("batches of %d return %v, one batch %v", size, got, all)
			}
		}
	}
}
