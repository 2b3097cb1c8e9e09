package graph

import (
	"iter"
	"slices"

	"quilter/api"
)

// rows is of each node those to which Edges lead from it.
type rows [][]int

// rowsOf answers the rows of n nodes and the Edges l, which are Right.
func rowsOf(n int, l []api.Edge) rows {
	r := make(rows, n)
	for _, e := range l {
		r[e.From] = append(r[e.From], e.To)
	}
	return r
}

// turned answers the rows of the same Edges, the other way round.
func (r rows) turned() rows {
	back := make(rows, len(r))
	for from, row := range r {
		for _, to := range row {
			back[to] = append(back[to], from)
		}
	}
	return back
}

// walk answers what goes from a node to all that it comes to, but where it was before, by whatever call; it lays each behind the list, and behind those to which it came from there.
func (r rows) walk() func(from int, list []int) []int {
	been := make([]bool, len(r))
	var visit func(from int, list []int) []int
	visit = func(from int, list []int) []int {
		if been[from] {
			return list
		}
		been[from] = true
		for _, to := range r[from] {
			list = visit(to, list)
		}
		return append(list, from)
	}
	return visit
}

// rings tells the rings, each a row of its nodes, behind all those to which Edges lead out of it.
func (r rows) rings() iter.Seq[[]int] {
	return func(yield func([]int) bool) {
		var order []int
		back := r.turned().walk()
		for i := range r {
			order = back(i, order)
		}
		// Out of the ring of the order's last node no Edge leads: from where it leads one would have come back to that node, and stand behind it. So all that it comes to is of its ring; once that is told, the same holds of the last one that is left.
		forth := r.walk()
		for _, i := range slices.Backward(order) {
			if ring := forth(i, nil); len(ring) > 0 && !yield(ring) {
				return
			}
		}
	}
}
