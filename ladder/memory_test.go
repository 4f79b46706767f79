package ladder_test

import (
	"slices"
	"testing"

	"ropeladder/api"
	"ropeladder/ladder"
)

// marker is an item that no operation adds.
var marker = api.Item{Time: -777, Seq: -777, Slot: -777}

// roomy returns the list with spare capacity behind it, filled with marks that an append would overwrite.
func roomy(list []api.Item) []api.Item {
	room := make([]api.Item, len(list)+3)
	for i := range room {
		room[i] = marker
	}
	copy(room, list)
	return room[:len(list)]
}

// spacious returns the queue with spare capacity behind all its slices.
func spacious(l api.Ladder) api.Ladder {
	l.Top, l.Bottom = roomy(l.Top), roomy(l.Bottom)
	rungs := make([]api.Rung, 0, len(l.Rungs)+2)
	for _, r := range l.Rungs {
		buckets := make([][]api.Item, 0, len(r.Buckets)+2)
		for _, list := range r.Buckets {
			buckets = append(buckets, roomy(list))
		}
		r.Buckets = buckets
		rungs = append(rungs, r)
	}
	l.Rungs = rungs
	return l
}

// whole returns a copy of the queue in which all slices extend to their capacities.
func whole(l api.Ladder) api.Ladder {
	l.Top, l.Bottom = slices.Clone(l.Top[:cap(l.Top)]), slices.Clone(l.Bottom[:cap(l.Bottom)])
	var rungs []api.Rung
	for _, r := range l.Rungs[:cap(l.Rungs)] {
		var buckets [][]api.Item
		for _, list := range r.Buckets[:cap(r.Buckets)] {
			buckets = append(buckets, slices.Clone(list[:cap(list)]))
		}
		r.Buckets = buckets
		rungs = append(rungs, r)
	}
	l.Rungs = rungs
	return l
}

// scribbleItems overwrites all the memory that a list can reach.
func scribbleItems(list []api.Item) {
	list = list[:cap(list)]
	for i := range list {
		list[i] = api.Item{Time: -888, Seq: -888, Slot: -888}
	}
}

// scribble overwrites all the memory that the queue can reach.
func scribble(l api.Ladder) {
	scribbleItems(l.Top)
	scribbleItems(l.Bottom)
	rungs := l.Rungs[:cap(l.Rungs)]
	for i, r := range rungs {
		buckets := r.Buckets[:cap(r.Buckets)]
		for k := range buckets {
			scribbleItems(buckets[k])
			buckets[k] = []api.Item{{Time: -999}}
		}
		rungs[i] = api.Rung{From: -999}
	}
}

// operation is a call that returns a queue.
type operation struct {
	what string
	call func(l api.Ladder) api.Ladder
}

// operations returns a call for each place of an insertion, and Peek and Pop.
func operations() []operation {
	insert := func(time int) func(api.Ladder) api.Ladder {
		return func(l api.Ladder) api.Ladder { return ladder.Insert(l, at(time, 99)) }
	}
	return []operation{
		{"Insert into Top", insert(7600)},
		{"Insert into rung 0", insert(7010)},
		{"Insert into rung 1", insert(500)},
		{"Insert into rung 3", insert(134)},
		{"Insert before Bottom", insert(1)},
		{"Insert into Bottom", insert(126)},
		{"Insert behind Bottom", insert(130)},
		{"Peek", func(l api.Ladder) api.Ladder { l, _, _ = ladder.Peek(l); return l }},
		{"Pop", func(l api.Ladder) api.Ladder { l, _, _ = ladder.Pop(l); return l }},
	}
}

// queues returns queues that differ in what refilling does to them.
func queues() map[string]api.Ladder {
	crowd := sample()
	crowd.Bottom = nil
	split := four(20, 1, some(58, 40, 41, 59, 42, 40))
	split.TopStart, split.Rungs = 10000, split.Rungs[1:]
	return map[string]api.Ladder{
		"new":                {},
		"all places":         sample(),
		"no Bottom":          crowd,
		"four items in Top":  {Top: some(9, 2, 30, 4)},
		"six items in Top":   {Top: some(9, 2, 30, 4, 3, 25)},
		"many in one bucket": four(20, 1, some(58, 40, 41, 59, 42, 40)),
		"another rung":       split,
		"empty rungs":        {TopStart: 8, Top: some(9, 10, 8), Rungs: []api.Rung{rungOf(0, 1, 8, nil), rungOf(0, 1, 8, nil)}},
	}
}

// Rules: no function changes its argument, not even the memory behind its slices.
func TestArgumentsAreUnchanged(t *testing.T) {
	for name, l := range queues() {
		for _, o := range operations() {
			given := spacious(l)
			before := whole(given)
			o.call(given)
			if !equal(given, l) || !equal(whole(given), before) {
				t.Errorf("%s: %s changes its argument %v to %v", name, o.what, l, given)
			}
		}
		given := spacious(l)
		before := whole(given)
		ladder.Valid(given)
		ladder.Len(given)
		if !equal(given, l) || !equal(whole(given), before) {
			t.Errorf("%s: a function changes its argument %v to %v", name, l, given)
		}
	}
	shuffled := sample()
	shuffled.Top = some(9000, 8000, 8500, 7600)
	slices.Reverse(shuffled.Bottom)
	given := copyOf(shuffled)
	ladder.Valid(given)
	if !equal(given, shuffled) {
		t.Errorf("Valid changes %v to %v", shuffled, given)
	}
}

// Rules: a later change of the argument does not change the result, nor a change of the result the argument.
func TestResultsShareNoMemoryWithArguments(t *testing.T) {
	for name, l := range queues() {
		for _, o := range operations() {
			given := spacious(l)
			got := o.call(given)
			want := copyOf(got)
			scribble(given)
			if !equal(got, want) {
				t.Errorf("%s: %s: a change of the argument changes the result to %v", name, o.what, got)
			}
			given = spacious(l)
			before := whole(given)
			got = o.call(given)
			scribble(got)
			if !equal(whole(given), before) {
				t.Errorf("%s: %s: a change of the result changes the argument to %v", name, o.what, given)
			}
		}
	}
}

// lists returns all lists of items of a queue.
func lists(l *api.Ladder) []*[]api.Item {
	all := []*[]api.Item{&l.Top, &l.Bottom}
	for i := range l.Rungs {
		for k := range l.Rungs[i].Buckets {
			all = append(all, &l.Rungs[i].Buckets[k])
		}
	}
	return all
}

// Rules: the lists of a result share no memory with one another.
func TestPartsOfResultsShareNoMemory(t *testing.T) {
	for name, l := range queues() {
		for _, o := range operations() {
			model := o.call(l)
			for i := range lists(&model) {
				got := o.call(l)
				want := copyOf(got)
				list := lists(&got)[i]
				scribbleItems(*list)
				_ = append(*list, marker)
				*list = *lists(&want)[i]
				if !equal(got, want) {
					t.Errorf("%s: %s: a change of list %d changes the result to %v", name, o.what, i, got)
				}
			}
		}
	}
}

// Rules: the lists of a queue whose own lists share memory are separate.
func TestSharedLists(t *testing.T) {
	list := some(5, 3)
	shared := api.Ladder{TopStart: 8, Rungs: []api.Rung{rungOf(0, 1, 0, nil)}}
	for i := range shared.Rungs[0].Buckets {
		shared.Rungs[0].Buckets[i] = list[:0]
	}
	shared.Top = list[:0]
	for _, time := range []int{3, 4, 5, 9, 10} {
		shared = ladder.Insert(shared, at(time, time))
	}
	want := api.Ladder{TopStart: 8, Top: []api.Item{at(9, 9), at(10, 10)}, Moves: 5, Compares: 8,
		Rungs: []api.Rung{rungOf(0, 1, 0, map[int][]api.Item{3: {at(3, 3)}, 4: {at(4, 4)}, 5: {at(5, 5)}})}}
	if !equal(shared, want) || !slices.Equal(list, some(5, 3)) {
		t.Errorf("queue %v, want %v; list %v", shared, want, list)
	}
}

// Rules: queues that come from one queue do not change one another, whatever is done with them.
func TestBranchesAreIndependent(t *testing.T) {
	for name, stem := range queues() {
		for round := range 4 {
			kept := copyOf(stem)
			for _, o := range operations() {
				once := o.call(stem)
				result := copyOf(once)
				for _, then := range operations() {
					if then.what != o.what {
						then.call(once)
						then.call(stem)
					}
				}
				if !equal(once, result) || !equal(stem, kept) {
					t.Errorf("%s: %s: later calls change the result to %v or the queue to %v", name, o.what, once, stem)
				}
			}
			stem, _, _ = ladder.Pop(ladder.Insert(stem, at(8000, 200+round)))
		}
	}
}
