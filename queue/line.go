package queue

import "slices"

// line is what waits, the first that came ahead of all others, and how many may wait.
type line[T any] struct {
	items []T
	room  int
}

// full tells whether there is no room left.
func (l *line[T]) full() bool {
	return len(l.items) >= l.room
}

// join lays x behind all others.
func (l *line[T]) join(x T) {
	l.items = append(l.items, x)
}

// leave takes the first one away, and answers it; false, if none waits.
func (l *line[T]) leave() (T, bool) {
	var first T
	if len(l.items) == 0 {
		return first, false
	}
	first = l.items[0]
	l.items = slices.Delete(l.items, 0, 1) // and not l.items[1:], which would keep what has left
	return first, true
}

// has tells whether there is one of that kind.
func (l *line[T]) has(kind func(T) bool) bool {
	return slices.ContainsFunc(l.items, kind)
}
