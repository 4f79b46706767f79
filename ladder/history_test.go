package ladder_test

import (
	"cmp"
	"slices"
	"testing"

	"ropeladder/api"
	"ropeladder/ladder"
)

// Places of an entry: Top, Bottom, or a rung, whose number is the place.
const (
	top    = -1
	bottom = -2
)

// entry is an item of a history, and where it is.
type entry struct {
	item  api.Item
	place int
}

// step is a rung of a history, without items.
type step struct{ from, width, cur int }

func (s step) current() int { return s.from + s.cur*s.width }

// bucketOf returns the bucket of a time, counted from the first one.
func (s step) bucketOf(time int) int {
	i := 0
	for time-s.from >= (i+1)*s.width {
		i++
	}
	return i
}

// history is a queue and what the operations on it must have led to: one list of all items, which are moved by a change of their places.
type history struct {
	queue    api.Ladder
	topStart int
	steps    []step
	pending  []entry // in the order in which they were inserted
	moves    int
	compares int
	inserted int
}

func begin() *history { return &history{queue: ladder.New()} }

// branch returns a copy that can be continued on its own.
func (h *history) branch() *history {
	other := *h
	other.steps, other.pending = slices.Clone(h.steps), slices.Clone(h.pending)
	return &other
}

// those returns the indices of the entries at a place.
func (h *history) those(place int) []int {
	var found []int
	for i, e := range h.pending {
		if e.place == place {
			found = append(found, i)
		}
	}
	return found
}

// move puts the entries at another place.
func (h *history) move(entries []int, place int) {
	for _, i := range entries {
		h.pending[i].place = place
	}
	h.moves += len(entries)
}

// placeOf finds the place of a new item, and counts the comparisons.
func (h *history) placeOf(time int) int {
	h.compares++
	if time >= h.topStart {
		return top
	}
	for i, s := range h.steps {
		h.compares++
		if s.current() <= time {
			return i
		}
	}
	return bottom
}

// refill moves entries by the rules of H3.
func (h *history) refill() {
	for len(h.those(bottom)) == 0 {
		n := len(h.steps)
		if n > 0 {
			h.refillFrom(n - 1)
			continue
		}
		list := h.those(top)
		if len(list) == 0 {
			return
		}
		first, last := h.pending[list[0]].item.Time, -1
		for _, i := range list {
			first, last = min(first, h.pending[i].item.Time), max(last, h.pending[i].item.Time)
		}
		h.topStart = last + 1
		if len(list) <= 4 {
			h.move(list, bottom)
			continue
		}
		// The width is the least one with which eight buckets contain the last time.
		h.steps = append(h.steps, step{from: first, width: (last-first)/8 + 1})
		h.move(list, 0)
	}
}

// refillFrom moves the entries of the first bucket of the last rung that has some, or removes that rung.
func (h *history) refillFrom(number int) {
	s := h.steps[number]
	list := h.those(number)
	if len(list) == 0 {
		h.steps = h.steps[:number]
		return
	}
	first := 8
	for _, i := range list {
		first = min(first, s.bucketOf(h.pending[i].item.Time))
	}
	list = slices.DeleteFunc(list, func(i int) bool { return s.bucketOf(h.pending[i].item.Time) != first })
	h.steps[number].cur = first + 1
	if len(list) <= 4 || number == 3 || s.width == 1 {
		h.move(list, bottom)
		return
	}
	h.steps = append(h.steps, step{from: s.from + first*s.width, width: (s.width + 7) / 8})
	h.move(list, number+1)
}

// want returns the queue that the history has led to.
func (h *history) want() api.Ladder {
	l := api.Ladder{TopStart: h.topStart, Moves: h.moves, Compares: h.compares}
	for _, s := range h.steps {
		l.Rungs = append(l.Rungs, rungOf(s.from, s.width, s.cur, nil))
	}
	for _, e := range h.pending {
		switch e.place {
		case top:
			l.Top = append(l.Top, e.item)
		case bottom:
			l.Bottom = append(l.Bottom, e.item)
		default:
			list := &l.Rungs[e.place].Buckets[h.steps[e.place].bucketOf(e.item.Time)]
			*list = append(*list, e.item)
		}
	}
	slices.SortFunc(l.Bottom, inOrder)
	return l
}

func inOrder(a api.Item, b api.Item) int {
	return cmp.Or(cmp.Compare(a.Time, b.Time), cmp.Compare(a.Seq, b.Seq))
}

// check compares the queue with the history that led to it (P8.1), its validity with the definition (P8.2), and its counters with their bounds (P8.4).
func (h *history) check(t *testing.T) {
	t.Helper()
	if want := h.want(); !equal(h.queue, want) {
		t.Fatalf("queue %v, want %v", h.queue, want)
	}
	if !ladder.Valid(h.queue) || !validByDefinition(h.queue) {
		t.Fatalf("%v is not valid", h.queue)
	}
	if n := ladder.Len(h.queue); n != len(h.pending) {
		t.Fatalf("Len(%v) = %d, want %d", h.queue, n, len(h.pending))
	}
	if h.queue.Moves > 6*h.inserted || h.queue.Compares > 5*h.inserted {
		t.Fatalf("%d moves and %d comparisons after %d insertions", h.queue.Moves, h.queue.Compares, h.inserted)
	}
}

// insert adds an item.
func (h *history) insert(t *testing.T, it api.Item) {
	t.Helper()
	h.inserted++
	h.moves++
	h.pending = append(h.pending, entry{it, h.placeOf(it.Time)})
	h.queue = ladder.Insert(h.queue, it)
	h.check(t)
}

// first returns the index of the least entry, or -1.
func (h *history) first() int {
	least := -1
	for i, e := range h.pending {
		if least < 0 || inOrder(e.item, h.pending[least].item) < 0 {
			least = i
		}
	}
	return least
}

// peek looks at the least item of all.
func (h *history) peek(t *testing.T) {
	t.Helper()
	var want api.Item
	i := h.first()
	if i >= 0 {
		want = h.pending[i].item
	}
	h.refill()
	queue, it, ok := ladder.Peek(h.queue)
	if it != want || ok != (i >= 0) {
		t.Fatalf("Peek(%v) = %v, %v, %t, want %v", h.queue, queue, it, ok, want)
	}
	h.queue = queue
	h.check(t)
}

// pop removes the least item of all (P8.3), and reports whether there was one.
func (h *history) pop(t *testing.T) bool {
	t.Helper()
	var want api.Item
	i := h.first()
	h.refill()
	if i >= 0 {
		want = h.pending[i].item
		h.pending = slices.Delete(h.pending, i, i+1)
	}
	queue, it, ok := ladder.Pop(h.queue)
	if it != want || ok != (i >= 0) {
		t.Fatalf("Pop(%v) = %v, %v, %t, want %v", h.queue, queue, it, ok, want)
	}
	h.queue = queue
	h.check(t)
	return ok
}

// P8.1 to P8.4: all short sequences of operations, from an empty queue and from queues with a rung.
func TestShortHistories(t *testing.T) {
	extend(t, begin(), []int{0, 1, 5, 6}, 5)
	for _, times := range [][]int{{40, 0, 3, 1, 2}, {9, 9, 9, 9, 9}, {0, 10, 20, 30, 40, 11, 12, 13, 14, 15}} {
		h := begin()
		for i, time := range times {
			h.insert(t, at(time, 100+i))
		}
		extend(t, h, []int{0, 2, 4, 9, 12, 41}, 4)
		h.pop(t)
		extend(t, h, []int{0, 2, 4, 9, 12, 41}, 4)
	}
}

// extend continues a history with all sequences of that many operations, each of them a Peek, a Pop or an insertion at one of the times.
func extend(t *testing.T, h *history, times []int, operations int) {
	if operations == 0 {
		return
	}
	for _, time := range times {
		with := h.branch()
		// Numbers that decrease put later items of a time before earlier ones.
		with.insert(t, at(time, operations))
		extend(t, with, times, operations-1)
	}
	seen := h.branch()
	seen.peek(t)
	extend(t, seen, times, operations-1)
	rest := h.branch()
	rest.pop(t)
	extend(t, rest, times, operations-1)
}

// dice is a generator of numbers that are the same in every run.
type dice uint64

// below returns a number less than n.
func (d *dice) below(n int) int {
	*d = *d*6364136223846793005 + 1442695040888963407
	return int(uint64(*d)>>33) % n
}

// time returns a time of at most the given one, most often near the time of now.
func (d *dice) time(now int, last int) int {
	now = min(now, last)
	switch d.below(8) {
	case 0:
		return last - min(last, d.below(10))
	case 1:
		return d.below(10) % (last + 1)
	case 2:
		return int(uint64(*d)>>3) % (last + 1)
	case 3:
		return now
	case 4:
		return max(0, now-d.below(20))
	default:
		return min(last, now+d.below(1+last/(1+d.below(100))))
	}
}

// P8.1 to P8.4: long sequences of operations, with times over short and long ranges, in which the queue grows, is used and is emptied.
func TestLongHistories(t *testing.T) {
	d := dice(1)
	deepest := 0
	for _, last := range []int{0, 1, 7, 40, 1000, 100000, 1 << 31, lastTime} {
		for round := range 40 {
			h := begin()
			for range 3 {
				for range 10 + d.below(40) {
					h.insert(t, at(d.time(h.now(), last), h.number(round, &d)))
				}
				for range d.below(60) {
					switch d.below(5) {
					case 0, 1:
						h.pop(t)
					case 2:
						h.peek(t)
					default:
						h.insert(t, at(d.time(h.now(), last), h.number(round, &d)))
					}
					deepest = max(deepest, len(h.steps))
				}
				for range d.below(2) * 200 {
					h.pop(t)
				}
			}
			for h.pop(t) {
				deepest = max(deepest, len(h.steps))
			}
			h.pop(t)
		}
	}
	if deepest != 4 {
		t.Errorf("no history has 4 rungs, only %d", deepest)
	}
}

// now returns the time of the least item.
func (h *history) now() int {
	if i := h.first(); i >= 0 {
		return h.pending[i].item.Time
	}
	return h.topStart
}

// number returns a sequence number that no item has: they increase, decrease, or have no order.
func (h *history) number(round int, d *dice) int {
	switch round % 3 {
	case 0:
		return h.inserted
	case 1:
		return -h.inserted
	default:
		return d.below(1<<20)<<20 + h.inserted
	}
}

// P8.3: popping returns all items in increasing order of time and number, whatever their order of insertion was.
func TestOrderOfPops(t *testing.T) {
	d := dice(2)
	for _, last := range []int{1, 5, 100, 1 << 30} {
		for n := range 120 {
			l := ladder.New()
			var all []api.Item
			for i := range n {
				// The numbers differ, because the prime 7919 has no common divisor with n+1.
				all = append(all, at(d.below(last), (i*7919)%(n+1)))
			}
			for _, it := range all {
				l = ladder.Insert(l, it)
			}
			slices.SortFunc(all, inOrder)
			for i := range n {
				rest, it, ok := ladder.Pop(l)
				if !ok || it != all[i] || ladder.Len(rest) != n-i-1 {
					t.Fatalf("Pop %d of %d: %v, %t, Len %d, want %v", i, n, it, ok, ladder.Len(rest), all[i])
				}
				l = rest
			}
			if rest, it, ok := ladder.Pop(l); ok || it != (api.Item{}) || ladder.Len(rest) != 0 {
				t.Fatalf("Pop behind the last item: %v, %v, %t", rest, it, ok)
			}
		}
	}
}

// P8.4: items that go through Top, all four rungs and Bottom are moved six times, and no more; later ones are compared five times.
func TestGreatestCost(t *testing.T) {
	l := ladder.New()
	l = ladder.Insert(l, at(lastTime, 0))
	for i := range 5 {
		l = ladder.Insert(l, at(7, i+1))
	}
	l, it, ok := ladder.Pop(l)
	if !ok || it != at(7, 1) || len(l.Rungs) != 4 || l.Moves != 6*5+2 || l.Compares != 6 {
		t.Errorf("Pop = %v, %v, %t", l, it, ok)
	}
	with := ladder.Insert(l, at(3, 9))
	if with.Compares != l.Compares+5 || with.Moves != l.Moves+1 {
		t.Errorf("Insert = %v", with)
	}
	inserted := 6
	for ladder.Len(l) > 0 {
		l, _, _ = ladder.Pop(l)
		if l.Moves > 6*inserted || l.Compares > 5*inserted {
			t.Errorf("%d moves, %d comparisons after %d insertions", l.Moves, l.Compares, inserted)
		}
	}
}
