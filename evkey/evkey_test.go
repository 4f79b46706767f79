package evkey_test

import (
	"math"
	"reflect"
	"slices"
	"testing"

	"ropeladder/api"
	"ropeladder/evkey"
)

// extremes are the numbers at which a comparison by subtraction, in 64 or in 32 bits, goes wrong, and their neighbors.
var extremes = []int{math.MinInt, math.MinInt + 1, math.MinInt32, -1, 0, 1, math.MaxInt32, 1 << 32, api.MaxTime, math.MaxInt - 1, math.MaxInt}

// shortKeys returns all keys of at most maxLen of the elements.
func shortKeys(maxLen int, elements ...int) [][]int {
	keys := [][]int{nil}
	for from := 0; maxLen > 0; maxLen-- {
		to := len(keys)
		for _, k := range keys[from:to] {
			for _, e := range elements {
				keys = append(keys, append(slices.Clone(k), e))
			}
		}
		from = to
	}
	return keys
}

func slowCompare(a int, b int) int {
	switch {
	case a < b:
		return -1
	case a > b:
		return 1
	}
	return 0
}

// slowCompareKeys reads C2 word by word.
func slowCompareKeys(a []int, b []int) int {
	for i := 0; i < len(a) && i < len(b); i++ {
		if a[i] != b[i] {
			return slowCompare(a[i], b[i])
		}
	}
	return slowCompare(len(a), len(b))
}

func isPrefix(a []int, b []int) bool {
	return len(a) <= len(b) && slices.Equal(a, b[:len(a)])
}

// checkOrder checks that compare is a total order of the values (P3.2), where same tells whether the compared fields are equal.
func checkOrder[T any](t *testing.T, values []T, compare func(T, T) int, same func(T, T) bool) {
	t.Helper()
	for _, a := range values {
		for _, b := range values {
			ab := compare(a, b)
			if ab < -1 || ab > 1 || compare(b, a) != -ab {
				t.Fatalf("%v and %v compare %d, the other way round %d", a, b, ab, compare(b, a))
			}
			if (ab == 0) != same(a, b) {
				t.Fatalf("%v and %v compare %d", a, b, ab)
			}
			if ab > 0 {
				continue
			}
			for _, c := range values {
				if compare(b, c) <= 0 && compare(a, c) > 0 {
					t.Fatalf("%v, %v and %v are not transitive", a, b, c)
				}
			}
		}
	}
}

// P3.1, C1: the cases that the chapter names.
func TestCompareItemsCases(t *testing.T) {
	for _, c := range []struct {
		name string
		a, b api.Item
		want int
	}{
		{"an earlier time", api.Item{Time: 1, Seq: 9, Slot: 9}, api.Item{Time: 2, Seq: 1, Slot: 1}, -1},
		{"an earlier time, equal sequence numbers", api.Item{Time: 1, Seq: 4}, api.Item{Time: 2, Seq: 4}, -1},
		{"equal times, a lesser sequence number", api.Item{Time: 2, Seq: 1, Slot: 5}, api.Item{Time: 2, Seq: 4, Slot: 3}, -1},
		{"equal items", api.Item{Time: 2, Seq: 1, Slot: 5}, api.Item{Time: 2, Seq: 1, Slot: 5}, 0},
		{"only the slots differ", api.Item{Time: 2, Seq: 1, Slot: 5}, api.Item{Time: 2, Seq: 1, Slot: 6}, 0},
		{"zero items", api.Item{}, api.Item{}, 0},
		{"a time below zero", api.Item{Time: -1}, api.Item{}, -1},
		{"times far apart", api.Item{Time: math.MinInt, Seq: 1}, api.Item{Time: math.MaxInt}, -1},
		{"sequence numbers far apart", api.Item{Seq: math.MinInt}, api.Item{Seq: math.MaxInt}, -1},
	} {
		if got := evkey.CompareItems(c.a, c.b); got != c.want {
			t.Errorf("%s: CompareItems(%v, %v) is %d", c.name, c.a, c.b, got)
		}
		if got := evkey.CompareItems(c.b, c.a); got != -c.want {
			t.Errorf("%s: CompareItems(%v, %v) is %d", c.name, c.b, c.a, got)
		}
	}
}

func extremeItems(slots ...int) []api.Item {
	var items []api.Item
	for _, time := range extremes {
		for _, seq := range extremes {
			for _, slot := range slots {
				items = append(items, api.Item{Time: time, Seq: seq, Slot: slot})
			}
		}
	}
	return items
}

// P3.1, C1: all pairs of extreme times, sequence numbers and slots, against the definition.
func TestCompareItemsAgainstDefinition(t *testing.T) {
	items := extremeItems(math.MinInt, 0, math.MaxInt)
	for _, a := range items {
		for _, b := range items {
			want := slowCompare(a.Time, b.Time)
			if want == 0 {
				want = slowCompare(a.Seq, b.Seq)
			}
			if got := evkey.CompareItems(a, b); got != want {
				t.Fatalf("CompareItems(%v, %v) is %d, want %d", a, b, got, want)
			}
		}
	}
}

// P3.2: items.
func TestItemsAreOrdered(t *testing.T) {
	checkOrder(t, extremeItems(0, 3), evkey.CompareItems, func(a api.Item, b api.Item) bool {
		return a.Time == b.Time && a.Seq == b.Seq
	})
}

// P3.1, C2: the examples and the cases that the chapter names.
func TestCompareKeysCases(t *testing.T) {
	for _, c := range []struct {
		name string
		a, b []int
		want int
	}{
		{"the first example: a key and its proper prefix", []int{1}, []int{1, 0}, -1},
		{"the second example: a longer key that is before", []int{1, 5}, []int{2}, -1},
		{"a prefix, and an element below zero", []int{1}, []int{1, -1}, -1},
		{"a prefix, and the least element", []int{1}, []int{1, math.MinInt}, -1},
		{"a prefix, shorter by three", []int{4, 7}, []int{4, 7, 0, 0, 0}, -1},
		{"the empty key and another one", []int{}, []int{math.MinInt}, -1},
		{"a nil key and another one", nil, []int{0}, -1},
		{"two empty keys", []int{}, []int{}, 0},
		{"a nil and an empty key", nil, []int{}, 0},
		{"equal keys", []int{3, 1, 4}, []int{3, 1, 4}, 0},
		{"a difference in the last of equally many elements", []int{3, 1, 4}, []int{3, 1, 5}, -1},
		{"a difference before the shorter one ends", []int{3, 1, 9}, []int{3, 2}, -1},
		{"the first difference decides, not a later one", []int{3, 1, 9}, []int{3, 2, 0}, -1},
		{"the first element decides, not the sum", []int{0, 100}, []int{1, 0}, -1},
		{"numbers, not digits", []int{9}, []int{10}, -1},
		{"the least and the greatest element", []int{5, math.MinInt}, []int{5, math.MaxInt}, -1},
	} {
		if got := evkey.CompareKeys(c.a, c.b); got != c.want {
			t.Errorf("%s: CompareKeys(%v, %v) is %d", c.name, c.a, c.b, got)
		}
		if got := evkey.CompareKeys(c.b, c.a); got != -c.want {
			t.Errorf("%s: CompareKeys(%v, %v) is %d", c.name, c.b, c.a, got)
		}
	}
}

// P3.1, C2: all short keys, against the definition.
func TestCompareKeysAgainstDefinition(t *testing.T) {
	for _, keys := range [][][]int{shortKeys(2, extremes...), shortKeys(4, -1, 0, 1, 2)} {
		for _, a := range keys {
			for _, b := range keys {
				if got, want := evkey.CompareKeys(a, b), slowCompareKeys(a, b); got != want {
					t.Fatalf("CompareKeys(%v, %v) is %d, want %d", a, b, got, want)
				}
			}
		}
	}
}

// P3.1, C2: long keys that differ at their ends only.
func TestCompareLongKeys(t *testing.T) {
	long := make([]int, 100000)
	longer := append(slices.Clone(long), 0)
	other := slices.Clone(long)
	other[len(other)-1] = 1
	if evkey.CompareKeys(long, slices.Clone(long)) != 0 || evkey.CompareKeys(long, longer) != -1 || evkey.CompareKeys(other, longer) != 1 {
		t.Error("long keys are compared wrongly")
	}
}

// P3.2: keys.
func TestKeysAreOrdered(t *testing.T) {
	same := func(a []int, b []int) bool { return slices.Equal(a, b) }
	checkOrder(t, shortKeys(2, extremes...), evkey.CompareKeys, same)
	checkOrder(t, shortKeys(3, math.MinInt, -1, 0, 1, math.MaxInt), evkey.CompareKeys, same)
}

// P3.1, C2: the elements of Child, and that it leaves its argument alone.
func TestChildCases(t *testing.T) {
	for _, c := range []struct {
		parent []int
		index  int
		want   []int
	}{
		{nil, 0, []int{0}},
		{[]int{}, 7, []int{7}},
		{[]int{4}, 2, []int{4, 2}},
		{[]int{4, 2}, 0, []int{4, 2, 0}},
		{[]int{math.MaxInt, math.MinInt}, math.MinInt, []int{math.MaxInt, math.MinInt, math.MinInt}},
		{[]int{0, 0}, math.MaxInt, []int{0, 0, math.MaxInt}},
		{[]int{1}, -3, []int{1, -3}},
	} {
		kept := slices.Clone(c.parent)
		if got := evkey.Child(c.parent, c.index); !slices.Equal(got, c.want) {
			t.Errorf("Child(%v, %d) is %v", kept, c.index, got)
		}
		if !slices.Equal(c.parent, kept) {
			t.Errorf("Child changed its argument from %v to %v", kept, c.parent)
		}
	}
}

// P3.1, C2: a child shares no memory with its parent or with its siblings, also if the parent has room for more elements.
func TestChildIsNewMemory(t *testing.T) {
	full := []int{1, 2, 3, 77, 88}
	parent := full[:3]
	first, second := evkey.Child(parent, 10), evkey.Child(parent, 11)
	if !slices.Equal(first, []int{1, 2, 3, 10}) || !slices.Equal(second, []int{1, 2, 3, 11}) {
		t.Error("the children are", first, "and", second)
	}
	parent[0] = 50
	second[1] = 60
	if !slices.Equal(first, []int{1, 2, 3, 10}) {
		t.Error("another key's change is seen in", first)
	}
	clear(first)
	if !slices.Equal(full, []int{50, 2, 3, 77, 88}) || !slices.Equal(second, []int{1, 60, 3, 11}) {
		t.Error("a child's change is seen in", full, "or", second)
	}
}

// P3.3: a key is before its children, and these are ordered by their indices.
func TestChildrenAreOrdered(t *testing.T) {
	for _, key := range shortKeys(2, extremes...) {
		for _, i := range extremes {
			child := evkey.Child(key, i)
			if evkey.CompareKeys(key, child) != -1 || evkey.CompareKeys(child, key) != 1 {
				t.Fatalf("%v is not before its child %v", key, child)
			}
			for _, j := range extremes {
				sibling := evkey.Child(key, j)
				if evkey.CompareKeys(child, sibling) != slowCompare(i, j) {
					t.Fatalf("%v and %v are not ordered by their indices", child, sibling)
				}
			}
		}
	}
}

// descendants returns the key's children and theirs, of some indices.
func descendants(key []int, indices ...int) [][]int {
	var l [][]int
	for _, i := range indices {
		child := evkey.Child(key, i)
		l = append(l, child)
		for _, j := range indices {
			l = append(l, evkey.Child(child, j))
		}
	}
	return l
}

// P3.3: if a key is before another one and no prefix of it, so are its descendants.
func TestDescendantsAreOrdered(t *testing.T) {
	keys := shortKeys(3, math.MinInt, -1, 0, 1, math.MaxInt)
	pairs := 0
	for _, a := range keys {
		family := descendants(a, math.MinInt, -1, 0, 1, math.MaxInt)
		for _, b := range keys {
			if evkey.CompareKeys(a, b) != -1 || isPrefix(a, b) {
				continue
			}
			pairs++
			for _, d := range family {
				if evkey.CompareKeys(d, b) != -1 || evkey.CompareKeys(b, d) != 1 {
					t.Fatalf("%v is before %v, but its descendant %v is not", a, b, d)
				}
			}
		}
	}
	if pairs == 0 {
		t.Error("no key is before another one")
	}
}

// P3.1, C3: times, keys, and the fields that are ignored.
func TestCompareEventsCases(t *testing.T) {
	for _, c := range []struct {
		name string
		a, b api.SimEvent
		want int
	}{
		{"an earlier time", api.SimEvent{Time: 1, Key: []int{9}}, api.SimEvent{Time: 2, Key: []int{0}}, -1},
		{"an earlier time, equal keys", api.SimEvent{Time: 1, Key: []int{3}}, api.SimEvent{Time: 2, Key: []int{3}}, -1},
		{"equal times, a lesser key", api.SimEvent{Time: 5, Key: []int{1, 5}}, api.SimEvent{Time: 5, Key: []int{2}}, -1},
		{"equal times, a prefix", api.SimEvent{Time: 5, Key: []int{1}}, api.SimEvent{Time: 5, Key: []int{1, 0}}, -1},
		{"equal times, no key", api.SimEvent{Time: 5}, api.SimEvent{Time: 5, Key: []int{math.MinInt}}, -1},
		{"a nil and an empty key", api.SimEvent{Time: 5}, api.SimEvent{Time: 5, Key: []int{}}, 0},
		{"zero events", api.SimEvent{}, api.SimEvent{}, 0},
		{"times far apart", api.SimEvent{Time: math.MinInt, Key: []int{1}}, api.SimEvent{Time: math.MaxInt}, -1},
		{"other logical processes", api.SimEvent{Time: 5, Key: []int{1}, LP: 1}, api.SimEvent{Time: 5, Key: []int{1}, LP: 2}, 0},
		{"other kinds", api.SimEvent{Time: 5, Key: []int{1}, Kind: api.EvResume}, api.SimEvent{Time: 5, Key: []int{1}, Kind: api.EvMessage}, 0},
		{"other processes", api.SimEvent{Time: 5, Key: []int{1}, Proc: 1}, api.SimEvent{Time: 5, Key: []int{1}, Proc: 2}, 0},
		{"other arguments", api.SimEvent{Time: 5, Key: []int{1}, Arg: 1}, api.SimEvent{Time: 5, Key: []int{1}, Arg: 2}, 0},
		{"ignored fields do not outweigh the key", api.SimEvent{Key: []int{1}, LP: 9, Kind: 9, Proc: 9, Arg: 9}, api.SimEvent{Key: []int{2}}, -1},
	} {
		if got := evkey.CompareEvents(c.a, c.b); got != c.want {
			t.Errorf("%s: CompareEvents(%v, %v) is %d", c.name, c.a, c.b, got)
		}
		if got := evkey.CompareEvents(c.b, c.a); got != -c.want {
			t.Errorf("%s: CompareEvents(%v, %v) is %d", c.name, c.b, c.a, got)
		}
	}
}

// someEvents returns an event for each time, key and argument of a small choice; those that differ only in their arguments compare equal.
func someEvents() []api.SimEvent {
	var events []api.SimEvent
	for _, time := range []int{0, math.MaxInt, -1, api.MaxTime, math.MinInt} {
		for _, key := range shortKeys(2, math.MaxInt, 0, math.MinInt, 1) {
			for arg := range 2 {
				events = append(events, api.SimEvent{Time: time, Key: key, LP: arg, Kind: 1 + arg, Proc: 5 - arg, Arg: arg})
			}
		}
	}
	return events
}

func slowCompareEvents(a api.SimEvent, b api.SimEvent) int {
	if a.Time != b.Time {
		return slowCompare(a.Time, b.Time)
	}
	return slowCompareKeys(a.Key, b.Key)
}

// P3.1, C3: all pairs of events, against the definition.
func TestCompareEventsAgainstDefinition(t *testing.T) {
	events := someEvents()
	for _, a := range events {
		for _, b := range events {
			if got, want := evkey.CompareEvents(a, b), slowCompareEvents(a, b); got != want {
				t.Fatalf("CompareEvents(%v, %v) is %d, want %d", a, b, got, want)
			}
		}
	}
}

// P3.2: events.
func TestEventsAreOrdered(t *testing.T) {
	checkOrder(t, someEvents(), evkey.CompareEvents, func(a api.SimEvent, b api.SimEvent) bool {
		return a.Time == b.Time && slices.Equal(a.Key, b.Key)
	})
}

// P1: nil and empty arguments, and P2: they count as equal.
func TestNoElements(t *testing.T) {
	for _, a := range [][]int{nil, {}} {
		for _, b := range [][]int{nil, {}} {
			if evkey.CompareKeys(a, b) != 0 || evkey.CompareEvents(api.SimEvent{Key: a}, api.SimEvent{Key: b}) != 0 {
				t.Error("a nil and an empty key differ")
			}
		}
		if !reflect.DeepEqual(evkey.Child(a, 3), []int{3}) {
			t.Error("a child of the empty key is", evkey.Child(a, 3))
		}
	}
}
