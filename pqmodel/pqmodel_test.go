package pqmodel_test

import (
	"math"
	"slices"
	"testing"

	"ropeladder/api"
	"ropeladder/pqmodel"
)

// The bounds of the chapter, as numbers of its own.
const (
	lastTime   = 1152921504606846976 // 2^60
	lastHandle = 70368744177727      // 64*2^40 + 63
)

var extremes = []int{math.MinInt, math.MinInt + 1, math.MinInt32, -1, 0, 1, math.MaxInt32, 1 << 32, lastHandle, lastHandle + 1, lastTime, lastTime + 1, math.MaxInt - 1, math.MaxInt}

func insertion(time int) api.Call { return api.Call{Kind: api.CallInsert, Time: time} }

func cancellation(h int) api.Call { return api.Call{Kind: api.CallCancel, Handle: h} }

func batch(most int, bound int) api.Call {
	return api.Call{Kind: api.CallBatch, Max: most, Bound: bound}
}

// sample returns a valid model with pending and dead entries, equal times, and handles that are ordered neither by time nor by number. The events with the handles 66, 5 and 1 have left.
func sample() api.Model {
	return api.Model{
		Cap: 8,
		Entries: []api.Entry{
			{Time: 0, Seq: 5, Handle: 130, Dead: true},
			{Time: 10, Seq: 0, Handle: 7},
			{Time: 10, Seq: 3, Handle: 2, Dead: true},
			{Time: 10, Seq: 7, Handle: lastHandle},
			{Time: 40, Seq: 2, Handle: 64},
			{Time: lastTime, Seq: 8, Handle: 0},
		},
		Next:   9,
		Issued: []int{7, 66, 64, 2, 5, 130, 1, lastHandle, 0},
	}
}

// full returns a valid model whose entries, some of them dead, occupy all of its capacity.
func full() api.Model {
	m := sample()
	m.Cap = len(m.Entries)
	return m
}

func copyOf(m api.Model) api.Model {
	return api.Model{Cap: m.Cap, Entries: slices.Clone(m.Entries), Next: m.Next, Issued: slices.Clone(m.Issued)}
}

func sameModel(a api.Model, b api.Model) bool {
	return a.Cap == b.Cap && slices.Equal(a.Entries, b.Entries) && a.Next == b.Next && slices.Equal(a.Issued, b.Issued)
}

func sameResult(a api.Result, b api.Result) bool {
	return a.Err == b.Err && a.Handle == b.Handle && a.Cancelled == b.Cancelled && slices.Equal(a.Events, b.Events)
}

func mustNew(t *testing.T, capacity int) api.Model {
	t.Helper()
	m, e := pqmodel.New(capacity)
	if e != api.OK {
		t.Fatalf("New(%d) returned error %d", capacity, int(e))
	}
	return m
}

// mustDo executes a call and checks its result.
func mustDo(t *testing.T, m api.Model, c api.Call, h int, want api.Result) api.Model {
	t.Helper()
	after, r := pqmodel.Do(m, c, h)
	if !sameResult(r, want) {
		t.Fatalf("Do(%v, %+v, %d) = %v, %+v, want %+v", m, c, h, after, r, want)
	}
	if !pqmodel.Valid(after) || !slowValid(after) {
		t.Fatalf("Do(%v, %+v, %d) = %v, which is not valid", m, c, h, after)
	}
	return after
}

// scenario is a call on a model, its result, and what it changes.
type scenario struct {
	what   string
	model  api.Model
	call   api.Call
	handle int
	want   api.Result
	change func(m *api.Model)
}

func unchanged(*api.Model) {}

// added is the change by an insertion.
func added(position int, e api.Entry) func(m *api.Model) {
	return func(m *api.Model) {
		m.Entries = slices.Insert(m.Entries, position, e)
		m.Issued = append(m.Issued, e.Handle)
		m.Next++
	}
}

// killed is the change by a cancellation.
func killed(position int) func(m *api.Model) {
	return func(m *api.Model) { m.Entries[position].Dead = true }
}

// removed is the change by a batch.
func removed(n int) func(m *api.Model) {
	return func(m *api.Model) { m.Entries = m.Entries[n:] }
}

func failure(e api.Errno) api.Result { return api.Result{Err: e} }

func issued(h int) api.Result { return api.Result{Handle: h} }

func events(l ...api.Event) api.Result { return api.Result{Events: l} }

// scenarios returns calls of all kinds on valid models, with results that follow from the chapter by hand.
func scenarios() []scenario {
	return slices.Concat(insertions(), refusals(), cancellations(), batches(), otherKinds())
}

func insertions() []scenario {
	empty := api.Model{Cap: 1}
	big := api.Model{Cap: 64}
	s := sample()
	return []scenario{
		{"insert at time 0 into an empty model", empty, insertion(0), 0, issued(0), added(0, api.Entry{})},
		{"insert at the last time with the last handle", empty, insertion(lastTime), lastHandle, issued(lastHandle), added(0, api.Entry{Time: lastTime, Handle: lastHandle})},
		{"insert into an empty model of capacity 64", big, insertion(3), 4, issued(4), added(0, api.Entry{Time: 3, Handle: 4})},
		{"insert at time 0 behind the entry at time 0", s, insertion(0), 3, issued(3), added(1, api.Entry{Time: 0, Seq: 9, Handle: 3})},
		{"insert at time 1", s, insertion(1), 3, issued(3), added(1, api.Entry{Time: 1, Seq: 9, Handle: 3})},
		{"insert at time 9", s, insertion(9), 3, issued(3), added(1, api.Entry{Time: 9, Seq: 9, Handle: 3})},
		{"insert behind three entries at the same time", s, insertion(10), 3, issued(3), added(4, api.Entry{Time: 10, Seq: 9, Handle: 3})},
		{"insert at time 11", s, insertion(11), 3, issued(3), added(4, api.Entry{Time: 11, Seq: 9, Handle: 3})},
		{"insert at time 40", s, insertion(40), 3, issued(3), added(5, api.Entry{Time: 40, Seq: 9, Handle: 3})},
		{"insert before the last time", s, insertion(lastTime - 1), 3, issued(3), added(5, api.Entry{Time: lastTime - 1, Seq: 9, Handle: 3})},
		{"insert at the last time behind an entry", s, insertion(lastTime), 3, issued(3), added(6, api.Entry{Time: lastTime, Seq: 9, Handle: 3})},
		{"insert with a handle just below the last one", s, insertion(11), lastHandle - 1, issued(lastHandle - 1), added(4, api.Entry{Time: 11, Seq: 9, Handle: lastHandle - 1})},
		{"insert with arguments of other calls", s, api.Call{Kind: api.CallInsert, Time: 11, Handle: 7, Max: -1, Bound: math.MinInt}, 3, issued(3), added(4, api.Entry{Time: 11, Seq: 9, Handle: 3})},
	}
}

func refusals() []scenario {
	s, f, one := sample(), full(), api.Model{Cap: 1, Entries: []api.Entry{{Time: 5, Handle: 9, Dead: true}}, Next: 1, Issued: []int{9}}
	list := []scenario{
		{"insert into a full model", f, insertion(10), 3, failure(api.ErrFull), unchanged},
		{"insert into a model full of dead entries", one, insertion(0), 3, failure(api.ErrFull), unchanged},
		{"insert with an issued handle into a full model", f, insertion(10), 66, failure(api.ErrFull), unchanged},
		{"insert with an invalid handle into a full model", f, insertion(10), -1, failure(api.ErrFull), unchanged},
		{"insert with a handle beyond the last one into a full model", f, insertion(lastTime), lastHandle + 1, failure(api.ErrFull), unchanged},
		{"insert at time 0 into a full model", f, insertion(0), 3, failure(api.ErrFull), unchanged},
		{"insert with all faults", f, insertion(-1), -1, failure(api.ErrArgument), unchanged},
		{"insert with arguments of other calls into a full model", f, api.Call{Kind: api.CallInsert, Time: 1, Handle: 3, Max: 1, Bound: 99}, 3, failure(api.ErrFull), unchanged},
	}
	for _, time := range []int{math.MinInt, -2, -1, lastTime + 1, lastTime + 2, math.MaxInt} {
		list = append(list,
			scenario{"insert at a bad time", s, insertion(time), 3, failure(api.ErrArgument), unchanged},
			scenario{"insert at a bad time into an empty model", api.Model{Cap: 64}, insertion(time), 0, failure(api.ErrArgument), unchanged},
			scenario{"insert at a bad time into a full model", f, insertion(time), 3, failure(api.ErrArgument), unchanged},
			scenario{"insert at a bad time with an issued handle", s, insertion(time), 7, failure(api.ErrArgument), unchanged})
	}
	for _, h := range []int{math.MinInt, -64, -1, lastHandle + 1, lastHandle + 2, math.MaxInt} {
		list = append(list,
			scenario{"insert with an invalid handle", s, insertion(10), h, failure(api.ErrArgument), unchanged},
			scenario{"insert with an invalid handle into an empty model", api.Model{Cap: 2}, insertion(10), h, failure(api.ErrArgument), unchanged})
	}
	for _, h := range s.Issued {
		list = append(list, scenario{"insert with an issued handle", s, insertion(10), h, failure(api.ErrArgument), unchanged})
	}
	return list
}

func cancellations() []scenario {
	s := sample()
	done := api.Result{Cancelled: true}
	list := []scenario{
		{"cancel an entry", s, cancellation(7), 0, done, killed(1)},
		{"cancel an entry behind others at the same time", s, cancellation(lastHandle), 3, done, killed(3)},
		{"cancel an entry of a full model", full(), cancellation(64), 0, done, killed(4)},
		{"cancel the last entry, whose handle is 0", s, cancellation(0), 64, done, killed(5)},
		{"cancel with arguments of other calls", s, api.Call{Kind: api.CallCancel, Time: -1, Handle: 7, Max: -1, Bound: 5}, -1, done, killed(1)},
		{"cancel in an empty model", api.Model{Cap: 3}, cancellation(0), 0, api.Result{}, unchanged},
		{"cancel with a handle in place of that of the call", s, cancellation(3), 7, api.Result{}, unchanged},
	}
	// Dead entries, events that have left, and handles that are unknown or invalid.
	for _, h := range []int{130, 2, 66, 5, 1, 3, 65, lastHandle - 1, -1, lastHandle + 1, math.MinInt, math.MaxInt} {
		list = append(list, scenario{"cancel what is not pending", s, cancellation(h), h, api.Result{}, unchanged})
	}
	return list
}

func batches() []scenario {
	s := sample()
	a, b, c, d := api.Event{Time: 10, Handle: 7}, api.Event{Time: 10, Handle: lastHandle}, api.Event{Time: 40, Handle: 64}, api.Event{Time: lastTime, Handle: 0}
	dead := api.Model{Cap: 3, Entries: []api.Entry{{Time: 1, Seq: 1, Handle: 4, Dead: true}, {Time: 1, Seq: 2, Handle: 3, Dead: true}, {Time: 2, Seq: 0, Handle: 5, Dead: true}}, Next: 3, Issued: []int{5, 4, 3}}
	list := []scenario{
		{"batch of 0 leaves a dead entry", s, batch(0, math.MaxInt), 0, api.Result{}, unchanged},
		{"batch of 1 with the bound at the least time", s, batch(1, 0), 0, api.Result{}, unchanged},
		{"batch of 64 with the bound at the least time", s, batch(64, 0), 0, api.Result{}, unchanged},
		{"batch with a negative bound", s, batch(64, -1), 0, api.Result{}, unchanged},
		{"batch with the least bound", s, batch(64, math.MinInt), 0, api.Result{}, unchanged},
		{"batch of 1 that only passes a dead entry", s, batch(1, 1), 0, api.Result{}, removed(1)},
		{"batch of 64 that only passes a dead entry", s, batch(64, 10), 0, api.Result{}, removed(1)},
		{"batch of 1 leaves a dead entry behind its event", s, batch(1, 11), 3, events(a), removed(2)},
		{"batch of 2 passes two dead entries", s, batch(2, 11), 3, events(a, b), removed(4)},
		{"batch of 2 with the greatest bound", s, batch(2, math.MaxInt), 3, events(a, b), removed(4)},
		{"batch of 3 that finds 2 events", s, batch(3, 40), 3, events(a, b), removed(4)},
		{"batch of 3", s, batch(3, 41), 3, events(a, b, c), removed(5)},
		{"batch of 3 of 4 events", s, batch(3, lastTime+1), 3, events(a, b, c), removed(5)},
		{"batch of 64 with the bound at the last time", s, batch(64, lastTime), 3, events(a, b, c), removed(5)},
		{"batch of 64 with the bound behind the last time", s, batch(64, lastTime+1), 3, events(a, b, c, d), removed(6)},
		{"batch of 64 with the greatest bound", s, batch(64, math.MaxInt), 3, events(a, b, c, d), removed(6)},
		{"batch of 4 with the greatest bound", full(), batch(4, math.MaxInt), 3, events(a, b, c, d), removed(6)},
		{"batch of 63", s, batch(63, lastTime+1), 3, events(a, b, c, d), removed(6)},
		{"batch with arguments of other calls", s, api.Call{Kind: api.CallBatch, Time: -1, Handle: 7, Max: 2, Bound: 41}, -1, events(a, b), removed(4)},
		{"batch of dead entries only", dead, batch(1, 3), 0, api.Result{}, removed(3)},
		{"batch of the first dead entries only", dead, batch(1, 2), 0, api.Result{}, removed(2)},
		{"batch of an empty model", api.Model{Cap: 1}, batch(64, math.MaxInt), 0, api.Result{}, unchanged},
		{"batch of 0 of an empty model", api.Model{Cap: 1}, batch(0, 0), 0, api.Result{}, unchanged},
		{"batch of -1 of an empty model", api.Model{Cap: 1}, batch(-1, 0), 0, failure(api.ErrArgument), unchanged},
		{"batch of 65 of an empty model", api.Model{Cap: 64}, batch(65, 0), 0, failure(api.ErrArgument), unchanged},
	}
	for _, most := range []int{math.MinInt, -64, -1, 65, 66, 128, math.MaxInt} {
		list = append(list,
			scenario{"batch with a bad Max", s, batch(most, math.MaxInt), 3, failure(api.ErrArgument), unchanged},
			scenario{"batch with a bad Max and a low bound", s, batch(most, math.MinInt), 3, failure(api.ErrArgument), unchanged})
	}
	return list
}

func otherKinds() []scenario {
	var list []scenario
	for _, kind := range []int{math.MinInt, math.MinInt + 1, -2, -1, 0, 4, 5, 64, 257, 1 << 32, 1<<32 + 1, math.MaxInt} {
		c := api.Call{Kind: kind, Time: 3, Handle: 7, Max: 64, Bound: 99}
		list = append(list,
			scenario{"call of no kind", sample(), c, 3, failure(api.ErrArgument), unchanged},
			scenario{"call of no kind on a full model", full(), c, 3, failure(api.ErrArgument), unchanged},
			scenario{"zero call but for its kind", api.Model{Cap: 1}, api.Call{Kind: kind}, 0, failure(api.ErrArgument), unchanged})
	}
	return list
}

// after returns the model that the scenario must lead to.
func (s scenario) after() api.Model {
	m := copyOf(s.model)
	s.change(&m)
	return m
}

// P10.1, J1: a model without entries for each capacity that is allowed.
func TestNew(t *testing.T) {
	for capacity := 1; capacity <= 64; capacity++ {
		m := mustNew(t, capacity)
		if !sameModel(m, api.Model{Cap: capacity}) || !pqmodel.Valid(m) {
			t.Errorf("New(%d) = %v, Valid is %t", capacity, m, pqmodel.Valid(m))
		}
	}
}

// P10.1, J1: all other capacities are refused with the zero model.
func TestNewRefused(t *testing.T) {
	for _, capacity := range append([]int{-65, -64, -2, 65, 66, 128, 257, 1<<32 + 1}, extremes...) {
		if capacity == 1 {
			continue
		}
		if m, e := pqmodel.New(capacity); e != api.ErrArgument || !sameModel(m, api.Model{}) {
			t.Errorf("New(%d) = %v, %d", capacity, m, int(e))
		}
	}
}

// P10.1, P10.2, J2: calls of all kinds, their results and the models they lead to.
func TestScenarios(t *testing.T) {
	for _, s := range scenarios() {
		if !slowValid(s.model) {
			t.Fatalf("%s: the model %v is not valid", s.what, s.model)
		}
		m, r := pqmodel.Do(s.model, s.call, s.handle)
		if want := s.after(); !sameModel(m, want) || !sameResult(r, s.want) {
			t.Errorf("%s: Do(%v, %+v, %d) = %v, %+v, want %v, %+v", s.what, s.model, s.call, s.handle, m, r, want, s.want)
		}
		if !pqmodel.Valid(m) {
			t.Errorf("%s: Do(%v, %+v, %d) = %v, which is not valid", s.what, s.model, s.call, s.handle, m)
		}
	}
}

// P10.1, P10.2: a call with an error leaves the model unchanged.
func TestErrorsChangeNothing(t *testing.T) {
	failed := 0
	for _, s := range scenarios() {
		for _, m := range []api.Model{sample(), full(), {Cap: 1}, {Cap: 64}} {
			after, r := pqmodel.Do(m, s.call, s.handle)
			if r.Err == api.OK {
				continue
			}
			failed++
			if !sameModel(after, m) || !sameResult(r, failure(r.Err)) {
				t.Errorf("%s: Do(%v, %+v, %d) = %v, %+v", s.what, m, s.call, s.handle, after, r)
			}
		}
	}
	if failed == 0 {
		t.Error("no call fails")
	}
}

// The example of the chapter, and of DOC.md: of two events at one time, the batch returns the one that was inserted first.
func TestExample(t *testing.T) {
	for _, handles := range [][2]int{{0, 1}, {1, 0}, {64, 3}, {0, lastHandle}} {
		m := mustNew(t, 2)
		m = mustDo(t, m, insertion(5), handles[0], issued(handles[0]))
		m = mustDo(t, m, insertion(5), handles[1], issued(handles[1]))
		m = mustDo(t, m, batch(1, 6), 0, events(api.Event{Time: 5, Handle: handles[0]}))
		m = mustDo(t, m, batch(1, 6), 0, events(api.Event{Time: 5, Handle: handles[1]}))
		mustDo(t, m, batch(1, 6), 0, api.Result{})
	}
}

// P10.3: as many events at one time as a model can contain leave it in the order of their insertion, whatever their handles are.
func TestManyEventsAtOneTime(t *testing.T) {
	for _, size := range []int{1, 2, 3, 10, 64} {
		m := mustNew(t, 64)
		var all []api.Event
		for i := range 64 {
			h := i * 37 % 64
			m = mustDo(t, m, insertion(lastTime), h, issued(h))
			all = append(all, api.Event{Time: lastTime, Handle: h})
		}
		for len(all) > 0 {
			n := min(size, len(all))
			m = mustDo(t, m, batch(size, lastTime+1), 0, events(all[:n]...))
			all = all[n:]
		}
		mustDo(t, m, batch(size, lastTime+1), 0, api.Result{})
	}
}

// P10.3: a handle is of no use after its event has left: it cannot be cancelled, extracted or issued again.
func TestHandlesOfEventsThatLeft(t *testing.T) {
	m := mustNew(t, 2)
	m = mustDo(t, m, insertion(5), 9, issued(9))
	m = mustDo(t, m, insertion(5), 8, issued(8))
	m = mustDo(t, m, cancellation(8), 0, api.Result{Cancelled: true})
	m = mustDo(t, m, cancellation(8), 0, api.Result{})
	m = mustDo(t, m, batch(64, 6), 0, events(api.Event{Time: 5, Handle: 9}))
	for _, h := range []int{8, 9} {
		m = mustDo(t, m, cancellation(h), 0, api.Result{})
		m = mustDo(t, m, insertion(5), h, failure(api.ErrArgument))
	}
	mustDo(t, m, batch(64, math.MaxInt), 0, api.Result{})
}

// P10.4: a cancelled event occupies capacity until a batch passes it; batches that stop before it do not free its place.
func TestCancelledEventOccupiesCapacity(t *testing.T) {
	m := mustNew(t, 2)
	m = mustDo(t, m, insertion(7), 0, issued(0))
	m = mustDo(t, m, insertion(5), 1, issued(1))
	m = mustDo(t, m, cancellation(0), 0, api.Result{Cancelled: true})
	m = mustDo(t, m, insertion(5), 2, failure(api.ErrFull))
	m = mustDo(t, m, batch(64, 5), 0, api.Result{})
	m = mustDo(t, m, batch(0, math.MaxInt), 0, api.Result{})
	m = mustDo(t, m, insertion(5), 2, failure(api.ErrFull))
	// This batch has its one event and stops before the cancelled one.
	m = mustDo(t, m, batch(1, 100), 0, events(api.Event{Time: 5, Handle: 1}))
	m = mustDo(t, m, insertion(9), 2, issued(2))
	m = mustDo(t, m, insertion(9), 3, failure(api.ErrFull))
	m = mustDo(t, m, batch(64, 7), 0, api.Result{})
	m = mustDo(t, m, insertion(9), 3, failure(api.ErrFull))
	m = mustDo(t, m, batch(1, 8), 0, api.Result{})
	m = mustDo(t, m, insertion(9), 3, issued(3))
	mustDo(t, m, insertion(9), 4, failure(api.ErrFull))
}

// P10.4: a model of each capacity has room for as many events, and again after all of them were cancelled and passed.
func TestCapacity(t *testing.T) {
	for capacity := 1; capacity <= 64; capacity++ {
		m := mustNew(t, capacity)
		for round := range 2 {
			first := 64 * round
			for i := range capacity {
				m = mustDo(t, m, insertion(capacity-i), first+i, issued(first+i))
			}
			m = mustDo(t, m, insertion(0), 1000, failure(api.ErrFull))
			for i := range capacity {
				m = mustDo(t, m, cancellation(first+i), 0, api.Result{Cancelled: true})
				m = mustDo(t, m, insertion(0), 1000, failure(api.ErrFull))
			}
			m = mustDo(t, m, batch(1, math.MaxInt), 0, api.Result{})
		}
	}
}
