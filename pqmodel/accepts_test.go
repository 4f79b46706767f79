package pqmodel_test

import (
	"math"
	"slices"
	"testing"

	"ropeladder/api"
	"ropeladder/pqmodel"
)

// codes are all error codes, and integers that are none.
var codes = []api.Errno{api.OK, api.ErrArgument, api.ErrFull, api.ErrOverflow, api.ErrLookahead, api.ErrSyntax, -1, 2, 1 << 32, math.MinInt, math.MaxInt}

// otherEvents returns lists that differ from the given one: events missing, added, exchanged, or with another field.
func otherEvents(l []api.Event) [][]api.Event {
	var lists [][]api.Event
	extra := api.Event{Time: 3, Handle: 4}
	for i := 0; i <= len(l); i++ {
		lists = append(lists, slices.Insert(slices.Clone(l), i, extra), slices.Insert(slices.Clone(l), i, api.Event{}))
	}
	for i, e := range l {
		lists = append(lists, slices.Delete(slices.Clone(l), i, i+1), slices.Insert(slices.Clone(l), i, e))
		for _, other := range []api.Event{extra, {}, {Time: e.Time + 1, Handle: e.Handle}, {Time: e.Time - 1, Handle: e.Handle}, {Time: e.Time, Handle: e.Handle + 1}, {Time: e.Time, Handle: e.Handle - 1}, {Time: e.Handle, Handle: e.Time}} {
			changed := slices.Clone(l)
			changed[i] = other
			lists = append(lists, changed)
		}
		for k := range i {
			exchanged := slices.Clone(l)
			exchanged[i], exchanged[k] = l[k], l[i]
			lists = append(lists, exchanged)
		}
	}
	return slices.DeleteFunc(lists, func(other []api.Event) bool { return slices.Equal(other, l) })
}

// others returns results that differ from r in one field other than Handle.
func others(r api.Result) []api.Result {
	var results []api.Result
	for _, code := range codes {
		if code != r.Err {
			results = append(results, api.Result{Err: code, Handle: r.Handle, Cancelled: r.Cancelled, Events: r.Events})
		}
	}
	results = append(results, api.Result{Err: r.Err, Handle: r.Handle, Cancelled: !r.Cancelled, Events: r.Events})
	for _, l := range otherEvents(r.Events) {
		results = append(results, api.Result{Err: r.Err, Handle: r.Handle, Cancelled: r.Cancelled, Events: l})
	}
	return results
}

func withHandle(r api.Result, h int) api.Result {
	r.Handle = h
	return r
}

// checkAccepted checks that a result is accepted, with the model that Do returns.
func checkAccepted(t *testing.T, m api.Model, c api.Call, r api.Result, want api.Model) {
	t.Helper()
	if after, ok := pqmodel.Accepts(m, c, r); !ok || !sameModel(after, want) {
		t.Errorf("Accepts(%v, %+v, %+v) = %v, %t, want %v, true", m, c, r, after, ok, want)
	}
}

// checkRejected checks that a result is not accepted, and the model returned as it is.
func checkRejected(t *testing.T, m api.Model, c api.Call, r api.Result) {
	t.Helper()
	if after, ok := pqmodel.Accepts(m, c, r); ok || !sameModel(after, m) {
		t.Errorf("Accepts(%v, %+v, %+v) = %v, %t, want %v, false", m, c, r, after, ok, m)
	}
}

// P10.1, J3: of cancellations, batches, insertions that succeed and calls of no kind, the result of Do is accepted, and no result that differs from it in one field.
func TestAccepts(t *testing.T) {
	for _, s := range scenarios() {
		if s.call.Kind == api.CallInsert && s.want.Err != api.OK {
			continue
		}
		checkAccepted(t, s.model, s.call, s.want, s.after())
		for _, r := range others(s.want) {
			checkRejected(t, s.model, s.call, r)
		}
		if s.call.Kind == api.CallInsert {
			continue
		}
		for _, h := range append([]int{7, 66, 3, 64}, extremes...) {
			if h != 0 {
				checkRejected(t, s.model, s.call, withHandle(s.want, h))
			}
		}
	}
}

// P10.1, J3: an insertion may return any valid handle that was not issued, and the model has that handle; it cannot return any other.
func TestAcceptsHandles(t *testing.T) {
	// The positions are those of an entry at time 11.
	for position, m := range map[int]api.Model{4: sample(), 0: {Cap: 1}} {
		for _, h := range append([]int{1, 2, 3, 5, 7, 64, 65, 66, 67, 130, lastHandle - 1}, extremes...) {
			r := issued(h)
			if h < 0 || h > lastHandle || slices.Contains(m.Issued, h) {
				checkRejected(t, m, insertion(11), r)
				continue
			}
			want := copyOf(m)
			added(position, api.Entry{Time: 11, Seq: m.Next, Handle: h})(&want)
			checkAccepted(t, m, insertion(11), r, want)
			for _, other := range others(r) {
				checkRejected(t, m, insertion(11), other)
			}
		}
	}
}

// P10.1, J3: the errors of an insertion. A result with an error has the handle 0, so ErrArgument is accepted for a good time only if 0 was issued.
func TestAcceptsErrorsOfInsertions(t *testing.T) {
	s, f := sample(), full()
	fresh := sample()
	fresh.Entries = fresh.Entries[:5]
	fresh.Issued, fresh.Next = fresh.Issued[:8], 8
	for _, c := range []struct {
		model api.Model
		time  int
		err   api.Errno
	}{
		{s, -1, api.ErrArgument},
		{s, lastTime + 1, api.ErrArgument},
		{s, math.MinInt, api.ErrArgument},
		{s, math.MaxInt, api.ErrArgument},
		{fresh, -1, api.ErrArgument},
		{api.Model{Cap: 1}, lastTime + 1, api.ErrArgument},
		{f, -1, api.ErrArgument},
		{f, lastTime + 1, api.ErrArgument},
		{f, 0, api.ErrFull},
		{f, 10, api.ErrFull},
		{f, lastTime, api.ErrFull},
		{s, 0, api.ErrArgument},
		{s, lastTime, api.ErrArgument},
	} {
		r := failure(c.err)
		checkAccepted(t, c.model, insertion(c.time), r, c.model)
		for _, other := range others(r) {
			checkRejected(t, c.model, insertion(c.time), other)
		}
		for _, h := range append([]int{3, 7, 66}, extremes...) {
			if h != 0 {
				checkRejected(t, c.model, insertion(c.time), withHandle(r, h))
			}
		}
	}
	for _, code := range codes {
		if code != api.OK {
			checkRejected(t, fresh, insertion(10), failure(code))
			checkRejected(t, api.Model{Cap: 64}, insertion(0), failure(code))
		}
	}
}

// P10.1, J3: the result of Do is accepted exactly if it is the one for its own handle, for all calls on several models.
func TestAcceptsAgainstDo(t *testing.T) {
	for _, s := range scenarios() {
		for _, m := range []api.Model{s.model, sample(), full(), {Cap: 1}} {
			_, r := pqmodel.Do(m, s.call, s.handle)
			after, own := pqmodel.Do(m, s.call, r.Handle)
			if sameResult(r, own) {
				checkAccepted(t, m, s.call, r, after)
			} else {
				checkRejected(t, m, s.call, r)
			}
		}
	}
}

// someResults returns results of which no two are equal.
func someResults() []api.Result {
	results := []api.Result{{}, {Err: api.ErrFull, Handle: 5, Cancelled: true, Events: []api.Event{{Time: 1, Handle: 2}, {Time: 3, Handle: 4}}}}
	for _, r := range slices.Clone(results) {
		results = append(results, others(r)...)
		for _, h := range extremes {
			if h != r.Handle {
				results = append(results, withHandle(r, h))
			}
		}
	}
	// others lists some events twice, as insertions at several positions of equal ones.
	var distinct []api.Result
	for _, r := range results {
		if !slices.ContainsFunc(distinct, func(other api.Result) bool { return sameResult(r, other) }) {
			distinct = append(distinct, r)
		}
	}
	return distinct
}

// P10.1, J1: all pairs of many results; a result equals itself and its copies only.
func TestEqual(t *testing.T) {
	results := someResults()
	if len(results) < 60 {
		t.Fatalf("only %d results", len(results))
	}
	for i, a := range results {
		for k, b := range results {
			b.Events = slices.Clone(b.Events)
			if got := pqmodel.Equal(a, b); got != (i == k) {
				t.Errorf("Equal(%+v, %+v) is %t", a, b, got)
			}
		}
	}
}

// P10.1, J1: long lists of events are compared to their ends.
func TestEqualLongLists(t *testing.T) {
	var l []api.Event
	for i := range 1000 {
		l = append(l, api.Event{Time: i, Handle: -i})
	}
	if !pqmodel.Equal(events(l...), events(slices.Clone(l)...)) {
		t.Error("a long list differs from its copy")
	}
	if pqmodel.Equal(events(l...), events(l[:999]...)) || pqmodel.Equal(events(l[1:]...), events(l...)) {
		t.Error("a long list equals a part of it")
	}
	for _, i := range []int{0, 1, 500, 999} {
		changed := slices.Clone(l)
		changed[i].Handle--
		if pqmodel.Equal(events(l...), events(changed...)) {
			t.Errorf("a change of event %d is not seen", i)
		}
	}
}

// P2: nil slices and empty ones are equal.
func TestNilAndEmptyResults(t *testing.T) {
	for _, r := range []api.Result{{}, {Err: api.ErrFull}, {Handle: 4}, {Cancelled: true}} {
		empty := r
		empty.Events = []api.Event{}
		if !pqmodel.Equal(r, empty) || !pqmodel.Equal(empty, r) || !pqmodel.Equal(empty, empty) {
			t.Errorf("%+v with no events differs from itself", r)
		}
	}
	for _, s := range scenarios() {
		if len(s.want.Events) == 0 && (s.want.Err == api.OK || s.call.Kind != api.CallInsert) {
			r := s.want
			r.Events = []api.Event{}
			checkAccepted(t, s.model, s.call, r, s.after())
		}
	}
}
