package rung_test

import (
	"slices"
	"testing"

	"ropeladder/api"
	"ropeladder/rung"
)

// marker is an item that no operation adds.
var marker = api.Item{Time: -777, Seq: -777, Slot: -777}

// spacious returns the rung with spare capacity behind its slices, filled with marks that an append to them would overwrite.
func spacious(r api.Rung) api.Rung {
	buckets := make([][]api.Item, 0, len(r.Buckets)+2)
	for _, list := range r.Buckets {
		room := make([]api.Item, len(list)+3)
		for i := range room {
			room[i] = marker
		}
		copy(room, list)
		buckets = append(buckets, room[:len(list)])
	}
	r.Buckets = buckets
	return r
}

// whole returns a copy of the rung in which all buckets extend to their capacities.
func whole(r api.Rung) api.Rung {
	var buckets [][]api.Item
	for _, list := range r.Buckets[:cap(r.Buckets)] {
		buckets = append(buckets, slices.Clone(list[:cap(list)]))
	}
	r.Buckets = buckets
	return r
}

// scribbleItems overwrites all the memory that a list can reach.
func scribbleItems(list []api.Item) {
	list = list[:cap(list)]
	for i := range list {
		list[i] = api.Item{Time: -888, Seq: -888, Slot: -888}
	}
}

// scribble overwrites all the memory that the rung can reach.
func scribble(r api.Rung) {
	buckets := r.Buckets[:cap(r.Buckets)]
	for i := range buckets {
		scribbleItems(buckets[i])
		buckets[i] = []api.Item{{Time: -999}}
	}
}

// operation is a call that returns a rung, and perhaps items.
type operation struct {
	what string
	call func(r api.Rung) (api.Rung, []api.Item)
}

// operations returns operations on the sample: each function, with success and with each kind of failure.
func operations() []operation {
	put := func(time int) func(api.Rung) (api.Rung, []api.Item) {
		return func(r api.Rung) (api.Rung, []api.Item) {
			b, _ := rung.Put(r, at(time, 9))
			return b, nil
		}
	}
	next := func(r api.Rung) (api.Rung, []api.Item) {
		b, items, _, _ := rung.Next(r)
		return b, items
	}
	return []operation{
		{"Put into a bucket with items", put(135)},
		{"Put into an empty bucket", put(150)},
		{"Put before Current", put(119)},
		{"Put at End", put(180)},
		{"Next", next},
	}
}

// Rules: no function changes its argument, not even the memory behind its slices.
func TestArgumentsAreUnchanged(t *testing.T) {
	for _, r := range []api.Rung{sample(), rungOf(100, 10, 2, nil), rungOf(100, 10, 8, nil)} {
		for _, o := range operations() {
			given := spacious(r)
			before := whole(given)
			o.call(given)
			if !equal(given, r) || !equal(whole(given), before) {
				t.Errorf("%s changes its argument %v to %v", o.what, r, given)
			}
		}
		given := spacious(r)
		before := whole(given)
		rung.Valid(given)
		rung.Len(given)
		rung.Current(given)
		rung.End(given)
		if !equal(given, r) || !equal(whole(given), before) {
			t.Errorf("a function changes its argument %v to %v", r, given)
		}
	}
}

// copyOf returns a copy of the rung.
func copyOf(r api.Rung) api.Rung {
	var buckets [][]api.Item
	for _, list := range r.Buckets {
		buckets = append(buckets, slices.Clone(list))
	}
	r.Buckets = buckets
	return r
}

// Rules: a later change of the argument does not change the result, nor a change of the result the argument.
func TestResultsShareNoMemoryWithArguments(t *testing.T) {
	for _, r := range []api.Rung{sample(), rungOf(100, 10, 2, nil)} {
		for _, o := range operations() {
			given := spacious(r)
			got, items := o.call(given)
			want, wantItems := copyOf(got), slices.Clone(items)
			scribble(given)
			if !equal(got, want) || !slices.Equal(items, wantItems) {
				t.Errorf("%s: a change of the argument changes the result to %v, %v", o.what, got, items)
			}
			given = spacious(r)
			before := whole(given)
			got, items = o.call(given)
			scribble(got)
			scribbleItems(items)
			if !equal(whole(given), before) {
				t.Errorf("%s: a change of the result changes the argument to %v", o.what, given)
			}
		}
	}
}

// Rules: the buckets of a result share no memory with one another, nor with the items of Next.
func TestPartsOfResultsShareNoMemory(t *testing.T) {
	calls := append(operations(), operation{"New", func(api.Rung) (api.Rung, []api.Item) { return rung.New(100, 10), nil }})
	for _, o := range calls {
		for i := range count {
			got, items := o.call(sample())
			want, wantItems := copyOf(got), slices.Clone(items)
			scribbleItems(got.Buckets[i])
			_ = append(got.Buckets[i], marker)
			got.Buckets[i] = want.Buckets[i]
			if !equal(got, want) || !slices.Equal(items, wantItems) {
				t.Errorf("%s: a change of bucket %d changes the result to %v, %v", o.what, i, got, items)
			}
		}
		got, items := o.call(sample())
		want := copyOf(got)
		scribbleItems(items)
		_ = append(items, marker)
		if !equal(got, want) {
			t.Errorf("%s: a change of the items changes the rung to %v", o.what, got)
		}
	}
}

// Rules: rungs that come from one rung do not change one another, whatever is put into them.
func TestBranchesAreIndependent(t *testing.T) {
	stem := sample()
	for _, time := range []int{131, 132, 133} {
		stem, _ = rung.Put(stem, at(time, time))
	}
	left, _ := rung.Put(stem, at(138, 1))
	right, _ := rung.Put(stem, at(139, 2))
	_, items, _, _ := rung.Next(stem)
	base := []api.Item{at(135, 4), at(130, 1), at(131, 131), at(132, 132), at(133, 133)}
	if !slices.Equal(stem.Buckets[3], base) || !slices.Equal(items, base) {
		t.Errorf("stem: %v, Next: %v", stem.Buckets[3], items)
	}
	if !slices.Equal(left.Buckets[3], append(slices.Clone(base), at(138, 1))) {
		t.Errorf("left: %v", left.Buckets[3])
	}
	if !slices.Equal(right.Buckets[3], append(slices.Clone(base), at(139, 2))) {
		t.Errorf("right: %v", right.Buckets[3])
	}
}
