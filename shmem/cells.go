package shmem

// cells is a row of cells with fixed bounds. Words and mutexes differ only in what a cell contains, so both share it.
type cells[T any] struct {
	values []T
}

func newCells[T any](n int) cells[T] {
	return cells[T]{values: make([]T, n)}
}

// get returns the content of cell i, or false if there is no such cell.
func (c *cells[T]) get(i int) (T, bool) {
	if i < 0 || i >= len(c.values) {
		var none T
		return none, false
	}
	return c.values[i], true
}

// replace gives cell i, which must exist, a new content and returns the old one.
func (c *cells[T]) replace(i int, v T) T {
	old := c.values[i]
	c.values[i] = v
	return old
}

// owner is the content of a mutex. Whether it is held is a flag of its own because thread 0 is a thread like any other.
type owner struct {
	held   bool
	thread int
}

func (o owner) heldBy(thread int) bool {
	return o.held && o.thread == thread
}

// logged returns the number by which the log shows the mutex.
func (o owner) logged() int {
	if o.held {
		return 1
	}
	return 0
}
