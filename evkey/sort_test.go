package evkey_test

import (
	"slices"
	"testing"

	"ropeladder/api"
	"ropeladder/evkey"
)

// sameEvent compares all fields; a nil and an empty key are equal.
func sameEvent(a api.SimEvent, b api.SimEvent) bool {
	return a.Time == b.Time && slices.Equal(a.Key, b.Key) && a.LP == b.LP && a.Kind == b.Kind && a.Proc == b.Proc && a.Arg == b.Arg
}

func sameEvents(a []api.SimEvent, b []api.SimEvent) bool {
	return slices.EqualFunc(a, b, sameEvent)
}

// deepCopy copies the events with their keys, apart from the program's way of doing so.
func deepCopy(l []api.SimEvent) []api.SimEvent {
	var events []api.SimEvent
	for _, e := range l {
		e.Key = append([]int{}, e.Key...)
		events = append(events, e)
	}
	return events
}

// slowSort inserts one event after the other behind all events that are not after it.
func slowSort(l []api.SimEvent) []api.SimEvent {
	var sorted []api.SimEvent
	for _, e := range l {
		i := len(sorted)
		for i > 0 && slowCompareEvents(sorted[i-1], e) > 0 {
			i--
		}
		sorted = slices.Insert(sorted, i, e)
	}
	return sorted
}

func checkSort(t *testing.T, l []api.SimEvent) {
	t.Helper()
	kept := deepCopy(l)
	got := evkey.SortEvents(l)
	if want := slowSort(kept); !sameEvents(got, want) {
		t.Fatalf("SortEvents(%v) is %v, want %v", kept, got, want)
	}
	if !sameEvents(l, kept) {
		t.Fatalf("SortEvents changed its argument from %v to %v", kept, l)
	}
}

// P3.1, C3: no events, one event, equal ones.
func TestSortCases(t *testing.T) {
	if l := evkey.SortEvents(nil); len(l) != 0 {
		t.Error("no events are sorted into", l)
	}
	if l := evkey.SortEvents([]api.SimEvent{}); len(l) != 0 {
		t.Error("no events are sorted into", l)
	}
	one := api.SimEvent{Time: 4, Key: []int{1, 2}, LP: 3, Kind: api.EvTimer, Proc: 5, Arg: 6}
	checkSort(t, []api.SimEvent{one})
	checkSort(t, []api.SimEvent{one, one, one})
	checkSort(t, []api.SimEvent{{}, {Key: []int{}}, {Time: -1}})
	checkSort(t, []api.SimEvent{{Time: 3, Key: []int{1}}, {Time: 3, Key: []int{0, 9}}, {Time: 1, Key: []int{5}}, {Time: 3, Key: []int{1, 0}}})
}

// P3.1, C3: all sequences of a few events, two of which compare equal.
func TestSortAllShortSequences(t *testing.T) {
	events := []api.SimEvent{
		{Time: 1, Key: []int{0}, Arg: 1},
		{Time: 1, Key: []int{0}, Arg: 2},
		{Time: 1, Key: []int{0, 0}},
		{Time: 0, Key: []int{7}},
		{Time: 2},
	}
	var extend func(l []api.SimEvent)
	extend = func(l []api.SimEvent) {
		checkSort(t, l)
		if len(l) == 5 {
			return
		}
		for _, e := range events {
			extend(append(slices.Clone(l), e))
		}
	}
	extend(nil)
}

// P3.1, C3: extreme times and elements of keys, and events that compare equal far apart from each other.
func TestSortManyEvents(t *testing.T) {
	events := someEvents()
	checkSort(t, events)
	slices.Reverse(events)
	checkSort(t, events)
	x := uint32(1)
	for range 20 {
		for i := range events {
			x = 1664525*x + 1013904223
			j := int(x>>8) % (i + 1)
			events[i], events[j] = events[j], events[i]
		}
		checkSort(t, events)
	}
}

// P3.1, C3: many events of few times keep the relative order of those that compare equal; their arguments are their former positions.
func TestSortIsStable(t *testing.T) {
	var l []api.SimEvent
	for i := range 3000 {
		l = append(l, api.SimEvent{Time: i * i % 7, Key: []int{i % 3}, Arg: i})
	}
	sorted := evkey.SortEvents(l)
	if len(sorted) != len(l) {
		t.Fatalf("%d events are sorted into %d", len(l), len(sorted))
	}
	for i := 1; i < len(sorted); i++ {
		a, b := sorted[i-1], sorted[i]
		if c := slowCompareEvents(a, b); c > 0 || c == 0 && a.Arg >= b.Arg {
			t.Fatalf("%v stands before %v", a, b)
		}
	}
}

// P3.1, C3: the result shares no memory with the argument, neither the events nor their keys, and no two of its keys share any.
func TestSortIsNewMemory(t *testing.T) {
	shared := []int{1, 2, 99}
	full := []api.SimEvent{{Time: 1, Key: shared[:2]}, {Time: 2, Key: shared[:2]}, {Time: 3, Key: shared[:1]}, {Time: 4}}
	l := full[:3]
	sorted := evkey.SortEvents(l)
	want := []api.SimEvent{{Time: 1, Key: []int{1, 2}}, {Time: 2, Key: []int{1, 2}}, {Time: 3, Key: []int{1}}}
	shared[0] = 50
	l[1].Time = 60
	if !sameEvents(sorted, want) {
		t.Error("a change of the argument is seen in", sorted)
	}
	sorted[0].Key[1] = 70
	sorted[2].Time = 80
	_ = append(sorted, api.SimEvent{Time: 90})
	_ = append(sorted[2].Key, 90)
	if !slices.Equal(shared, []int{50, 2, 99}) || full[2].Time != 3 || full[3].Time != 4 {
		t.Error("a change of the result is seen in", full, "with the keys of", shared)
	}
	if !slices.Equal(sorted[1].Key, []int{1, 2}) {
		t.Error("two events of the result share their keys")
	}
}

// P2: equal arguments have equal results, whatever was called before.
func TestSortAgain(t *testing.T) {
	events := someEvents()
	first := evkey.SortEvents(events)
	kept := deepCopy(first)
	for i := range first {
		first[i].Time = 0
		clear(first[i].Key)
	}
	evkey.SortEvents(first)
	if second := evkey.SortEvents(events); !sameEvents(second, kept) {
		t.Error("a second call has another result")
	}
	if again := evkey.SortEvents(kept); !sameEvents(again, kept) {
		t.Error("sorted events are sorted into others")
	}
}
