package rewrite

import (
	"iter"
	"math"
)

const (
	// none is the place of what has no byte.
	none = 0
	// huge is more bytes than any call answers, and twice that is still a number.
	huge = math.MaxInt / 2
)

// row is an item, or what stands at two places ahead of its own, the left one first.
type row[T comparable] struct {
	item        T
	left, right int
}

// rows tell bytes of which parts come again and again, each part once. For ten rules may make more bytes of a file than there is room for, and the next one few again: whether they are too many is asked behind all rules only.
type rows[T comparable] struct {
	list   []row[T]
	sizes  []int
	places map[row[T]]int
}

// newRows answers rows of nothing yet, but of what has no byte.
func newRows[T comparable]() rows[T] {
	return rows[T]{list: make([]row[T], 1), sizes: make([]int, 1), places: map[row[T]]int{}}
}

// place answers the place of a row of so many bytes.
func (x *rows[T]) place(r row[T], size int) int {
	place, is := x.places[r]
	if !is {
		place = len(x.list)
		x.list = append(x.list, r)
		x.sizes = append(x.sizes, min(size, huge))
		x.places[r] = place
	}
	return place
}

// item answers the place of an item of so many bytes, one at least.
func (x *rows[T]) item(item T, size int) int {
	return x.place(row[T]{item: item}, size)
}

// join answers the place of what stands at two of them, the left one first.
func (x *rows[T]) join(left int, right int) int {
	switch none {
	case left:
		return right
	case right:
		return left
	}
	return x.place(row[T]{left: left, right: right}, x.sizes[left]+x.sizes[right])
}

// one answers the item that stands at a place; false, if there are several.
func (x *rows[T]) one(place int) (T, bool) {
	r := x.list[place]
	return r.item, r.left == none
}

// items tells the items that stand at a place, in order.
func (x *rows[T]) items(place int) iter.Seq[T] {
	return func(yield func(T) bool) {
		if place == none {
			return
		}
		for open := []int{place}; len(open) > 0; {
			r := x.list[open[len(open)-1]]
			open = open[:len(open)-1]
			if r.left != none {
				open = append(open, r.right, r.left)
			} else if !yield(r.item) {
				return
			}
		}
	}
}

// fold answers what becomes of each place, where item tells it of an item, and join of two places. It asks once of each, however often that stands in others.
func fold[T comparable, U any](x rows[T], item func(T) U, join func(U, U) U) []U {
	told := make([]U, len(x.list))
places:
	for i, r := range x.list {
		switch {
		case i == none:
			continue places
		case r.left == none:
			told[i] = item(r.item)
		default:
			told[i] = join(told[r.left], told[r.right])
		}
	}
	return told
}

// joined answers what join makes of a list, which has one at least: of both halves, so that what comes again and again is mostly joined once.
func joined[T any](l []T, join func(T, T) T) T {
	if len(l) == 1 {
		return l[0]
	}
	half := len(l) / 2
	return join(joined(l[:half], join), joined(l[half:], join))
}
