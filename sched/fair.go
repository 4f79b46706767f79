package sched

import "iter"

// Fair reports whether every window of consecutive picks contains every thread.
func Fair(picks []int, threads int, window int) bool {
	if !validThreads(threads) || window < 1 {
		return false
	}
	if len(picks) < window {
		return true
	}
	// A window shares all but one of its picks with the next one, so the tally moves along instead of being counted anew.
	t := newTally(threads)
	for _, pick := range picks[:window-1] {
		t.add(pick)
	}
	for w := range windows(picks, window) {
		t.add(w[window-1])
		if t.present < threads {
			return false
		}
		t.remove(w[0])
	}
	return true
}

// windows yields every window of that many consecutive picks, in order.
func windows(picks []int, window int) iter.Seq[[]int] {
	return func(yield func([]int) bool) {
		for end := window; end <= len(picks); end++ {
			if !yield(picks[end-window : end]) {
				return
			}
		}
	}
}

// tally counts the picks of each thread; present is the number of threads that have any. It ignores picks of no thread.
type tally struct {
	counts  []int
	present int
}

func newTally(threads int) *tally {
	return &tally{counts: make([]int, threads)}
}

func (t *tally) add(pick int) {
	if !isThread(pick, len(t.counts)) {
		return
	}
	t.counts[pick]++
	if t.counts[pick] == 1 {
		t.present++
	}
}

func (t *tally) remove(pick int) {
	if !isThread(pick, len(t.counts)) {
		return
	}
	t.counts[pick]--
	if t.counts[pick] == 0 {
		t.present--
	}
}

// Repair returns a fair schedule that differs from picks only where a thread would starve.
func Repair(picks []int, threads int, window int) []int {
	if !validThreads(threads) || window < threads {
		return nil
	}
	a := make(ages, threads)
	repaired := make([]int, len(picks))
	for i, pick := range picks {
		// If any thread is due, the oldest one is; its age alone decides.
		if t := a.oldest(); a[t] >= window-threads {
			pick = t
		}
		repaired[i] = pick
		a.advance(pick)
	}
	return repaired
}

// ages contains, for each thread, the number of picks since it was last picked, or since the beginning.
type ages []int

// oldest returns the oldest thread, and of equally old ones the least.
func (a ages) oldest() int {
	t := 0
	for i, age := range a {
		if age > a[t] {
			t = i
		}
	}
	return t
}

// advance performs a pick. A pick of no thread makes all threads older.
func (a ages) advance(pick int) {
	for i := range a {
		a[i]++
	}
	if isThread(pick, len(a)) {
		a[pick] = 0
	}
}
