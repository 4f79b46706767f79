package pqmodel_test

import (
	"math"
	"slices"
	"testing"

	"ropeladder/api"
	"ropeladder/pqmodel"
)

// marker is a number that no function writes.
const marker = -777

// spacious returns the model with spare capacity behind its slices, filled with marks that an append to them would overwrite.
func spacious(m api.Model) api.Model {
	m.Entries = withRoom(m.Entries, api.Entry{Time: marker})
	m.Issued = withRoom(m.Issued, marker)
	return m
}

func withRoom[E any](list []E, mark E) []E {
	all := append(slices.Clone(list), mark, mark, mark)
	return all[:len(list)]
}

// whole returns the model with its slices extended to their capacities.
func whole(m api.Model) api.Model {
	m.Entries = m.Entries[:cap(m.Entries)]
	m.Issued = m.Issued[:cap(m.Issued)]
	return m
}

// scribble overwrites all the memory that the list can reach.
func scribble[E any](list []E, mark E) {
	list = list[:cap(list)]
	for i := range list {
		list[i] = mark
	}
}

func scribbleModel(m api.Model) {
	scribble(m.Entries, api.Entry{Time: marker - 1, Seq: marker - 1, Handle: marker - 1})
	scribble(m.Issued, marker-1)
}

func scribbleEvents(r api.Result) {
	scribble(r.Events, api.Event{Time: marker - 1, Handle: marker - 1})
}

// operation is a call of Do, or one of Accepts, which returns no api.Result.
type operation struct {
	what string
	call func(m api.Model) (api.Model, api.Result)
}

// operations returns operations for any model: on that of their scenario, some succeed and some fail.
func operations() []operation {
	var list []operation
	for _, s := range scenarios() {
		list = append(list, operation{"Do, " + s.what, func(m api.Model) (api.Model, api.Result) {
			return pqmodel.Do(m, s.call, s.handle)
		}})
		for _, r := range []api.Result{s.want, {Err: api.ErrFull}, events(api.Event{Time: 10, Handle: 7})} {
			list = append(list, operation{"Accepts, " + s.what, func(m api.Model) (api.Model, api.Result) {
				after, _ := pqmodel.Accepts(m, s.call, r)
				return after, api.Result{}
			}})
		}
	}
	return list
}

func copyOfResult(r api.Result) api.Result {
	r.Events = slices.Clone(r.Events)
	return r
}

// checkMemory checks that the operation does not modify its argument, and that the argument and the results share no memory.
func checkMemory(t *testing.T, m api.Model, o operation) {
	t.Helper()
	argument := spacious(m)
	before := copyOf(whole(argument))
	after, r := o.call(argument)
	if !sameModel(whole(argument), before) {
		t.Errorf("%s: the argument is changed to %v, %v", o.what, argument, whole(argument))
	}
	wantAfter, wantResult := copyOf(after), copyOfResult(r)
	scribbleEvents(r)
	if !sameModel(after, wantAfter) {
		t.Errorf("%s: a change of the events is seen in the model %v", o.what, after)
	}
	scribbleModel(after)
	if !sameModel(whole(argument), before) {
		t.Errorf("%s: a change of the results is seen in the argument %v", o.what, whole(argument))
	}
	again, s := o.call(argument)
	scribbleModel(argument)
	scribbleModel(after)
	scribbleEvents(r)
	if !sameModel(again, wantAfter) || !sameResult(s, wantResult) {
		t.Errorf("%s: a change of the argument, or of an earlier result, is seen in %v, %+v", o.what, again, s)
	}
	scribbleModel(again)
	if !sameResult(s, wantResult) {
		t.Errorf("%s: a change of the model is seen in the result %+v", o.what, s)
	}
}

// Rules: models are not modified, and results share no memory with them or with each other, whether the call succeeds or not.
func TestMemory(t *testing.T) {
	for _, o := range operations() {
		for _, m := range []api.Model{sample(), full(), crowd(64, 64), {Cap: 1}, {Cap: 2, Next: 1, Issued: []int{5}}} {
			checkMemory(t, m, o)
		}
	}
}

// Rules: Accepts and Equal do not modify the events that they compare, and Valid does not modify the model.
func TestReadersChangeNothing(t *testing.T) {
	for _, s := range scenarios() {
		for _, list := range append(otherEvents(s.want.Events), s.want.Events) {
			r := s.want
			r.Events = withRoom(list, api.Event{Time: marker})
			all := r.Events[:cap(r.Events)]
			before := slices.Clone(all)
			after, _ := pqmodel.Accepts(s.model, s.call, r)
			pqmodel.Equal(r, s.want)
			pqmodel.Equal(s.want, r)
			scribbleModel(after)
			if !slices.Equal(all, before) {
				t.Errorf("%s: the events %v are changed to %v", s.what, before, all)
			}
		}
	}
	for _, c := range append(sound(), flaws()...) {
		m := spacious(changed(c))
		before := copyOf(whole(m))
		pqmodel.Valid(m)
		if !sameModel(whole(m), before) {
			t.Errorf("with %s, the model is changed to %v", c.what, whole(m))
		}
	}
}

// Rules: two models that are made from one share no memory with each other.
func TestBranches(t *testing.T) {
	for _, m := range []api.Model{sample(), spacious(sample()), crowd(5, 64), mustNew(t, 3)} {
		before := copyOf(m)
		first, _ := pqmodel.Do(m, insertion(20), 1000)
		kept := copyOf(first)
		second, _ := pqmodel.Do(m, insertion(30), 1001)
		third, _ := pqmodel.Do(first, cancellation(1000), 0)
		pqmodel.Do(first, insertion(15), 1002)
		pqmodel.Do(first, batch(64, math.MaxInt), 0)
		if !sameModel(first, kept) || !sameModel(m, before) {
			t.Errorf("later calls change %v to %v, and its result %v to %v", before, m, kept, first)
		}
		if !slices.Contains(second.Issued, 1001) || slices.Contains(second.Issued, 1000) || sameModel(third, first) {
			t.Errorf("the models %v, %v and %v are mixed up", first, second, third)
		}
	}
}

// P2: a result depends on the arguments only, not on the calls before.
func TestIndependence(t *testing.T) {
	for _, capacity := range []int{1, 2, 64} {
		scribbleModel(mustNew(t, capacity))
		if m := mustNew(t, capacity); !sameModel(m, api.Model{Cap: capacity}) {
			t.Errorf("New(%d) = %v after another one was changed", capacity, m)
		}
	}
	all := operations()
	for i, o := range all {
		m, r := o.call(sample())
		for k := range 7 {
			other := all[(i*31+k*57)%len(all)]
			other.call(full())
			if again, s := o.call(sample()); !sameModel(again, m) || !sameResult(s, r) {
				t.Errorf("%s: %v, %+v, and after %s %v, %+v", o.what, m, r, other.what, again, s)
			}
		}
	}
}

// P2: models with nil slices and with empty ones have the same results.
func TestNilAndEmptyModels(t *testing.T) {
	null, empty := api.Model{Cap: 2}, api.Model{Cap: 2, Entries: []api.Entry{}, Issued: []int{}}
	if !pqmodel.Valid(null) || !pqmodel.Valid(empty) {
		t.Error("an empty model is not valid")
	}
	for _, o := range operations() {
		m, r := o.call(null)
		if again, s := o.call(empty); !sameModel(again, m) || !sameResult(s, r) {
			t.Errorf("%s: %v, %+v or %v, %+v", o.what, m, r, again, s)
		}
	}
}

// broken returns models that are not valid: those with one flaw, and some with many.
func broken() []api.Model {
	models := []api.Model{{}, {Cap: 3, Entries: make([]api.Entry, 200)}, {Cap: 64, Issued: make([]int, 200)}}
	for _, c := range flaws() {
		models = append(models, changed(c))
	}
	for _, n := range extremes {
		models = append(models,
			api.Model{Cap: n, Next: n + 1, Issued: []int{n}},
			api.Model{Cap: n, Entries: []api.Entry{{Time: n, Seq: n, Handle: n}}, Next: n},
			api.Model{Cap: 3, Entries: []api.Entry{{Time: n, Seq: n, Handle: n, Dead: true}}, Next: n, Issued: []int{n, n}},
			api.Model{Cap: 64, Entries: []api.Entry{{Time: n}, {Time: -n, Seq: n}, {Time: 5, Handle: n}, {Time: n, Dead: true}}, Next: math.MaxInt},
			api.Model{Cap: math.MaxInt, Entries: []api.Entry{{Time: 9, Handle: 7}, {Time: n, Handle: 7}, {Time: 1, Handle: n}}, Next: -n, Issued: []int{7, 7, n}},
		)
	}
	return models
}

// extremeCalls returns calls with numbers at the ends of the range of integers, and at and next to all bounds.
func extremeCalls() []api.Call {
	var calls []api.Call
	kinds := append([]int{api.CallInsert, api.CallCancel, api.CallBatch, 4}, extremes...)
	for _, kind := range kinds {
		for _, n := range extremes {
			calls = append(calls,
				api.Call{Kind: kind, Time: n, Handle: n, Max: n, Bound: n},
				api.Call{Kind: kind, Time: 10, Handle: 7, Max: 64, Bound: n},
				api.Call{Kind: kind, Time: -n, Handle: 2, Max: 65, Bound: -n},
			)
		}
	}
	return calls
}

// P1: for models that are not valid, and for all calls, handles and results, every function returns and does not panic.
func TestInvalidModels(t *testing.T) {
	results := []api.Result{{}, {Err: api.ErrArgument}, events(api.Event{Time: 10, Handle: 7}), events(make([]api.Event, 300)...)}
	for _, m := range append(broken(), sample(), full()) {
		checkValid(t, m)
		for _, c := range extremeCalls() {
			for _, h := range extremes {
				pqmodel.Do(m, c, h)
			}
			for _, r := range results {
				pqmodel.Accepts(m, c, r)
				pqmodel.Accepts(m, c, withHandle(r, c.Time))
			}
		}
	}
}

// Rules: models that are not valid are not modified either, and the results share no memory with them.
func TestMemoryOfInvalidModels(t *testing.T) {
	for _, o := range operations() {
		for _, m := range broken() {
			checkMemory(t, m, o)
		}
	}
}

// P1: results need not be those of any call.
func TestExtremeResults(t *testing.T) {
	for _, n := range extremes {
		for _, k := range extremes {
			a := api.Result{Err: api.Errno(n), Handle: k, Events: []api.Event{{Time: n, Handle: k}}}
			b := api.Result{Err: api.Errno(k), Handle: n, Events: []api.Event{{Time: k, Handle: n}}}
			if !pqmodel.Equal(a, a) || pqmodel.Equal(a, b) != (n == k) {
				t.Errorf("Equal(%+v, %+v) is %t", a, b, pqmodel.Equal(a, b))
			}
		}
	}
}
