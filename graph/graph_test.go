package graph_test

import (
	"math"
	"slices"
	"testing"

	"quilter/api"
	"quilter/graph"
)

// on answers Edges, of two numbers each: the first one stands on the second.
func on(ends ...int) []api.Edge {
	var l []api.Edge
	for pair := range slices.Chunk(ends, 2) {
		l = append(l, api.Edge{From: pair[0], To: pair[1]})
	}
	return l
}

// places answers where l is true.
func places(l []bool) []int {
	var where []int
	for i, yes := range l {
		if yes {
			where = append(where, i)
		}
	}
	return where
}

// same asks that got is just want.
func same(t *testing.T, call string, got []int, want []int) {
	t.Helper()
	if !slices.Equal(got, want) {
		t.Errorf("%s = %v; want %v", call, got[:min(len(got), 20)], want[:min(len(want), 20)])
	}
}

func TestRight(t *testing.T) {
	for n := -3; n <= api.MaxNodes+3; n++ {
		if right := n >= 0 && n <= 2000; graph.Right(n) != right {
			t.Errorf("Right(%d) = %t", n, !right)
		}
	}
	for _, n := range []int{math.MinInt, math.MinInt32, 2001, 4000, 1 << 32, 1<<32 + 1, math.MaxInt32, math.MaxInt} {
		if graph.Right(n) || graph.Right(n, on(0, 0)...) || graph.Right(n, on(0, n-1)...) {
			t.Errorf("Right(%d) = true", n)
		}
	}
	for _, x := range []struct {
		want bool
		n    int
		l    []api.Edge
	}{
		{true, 1, on(0, 0)},
		{true, 2, on(0, 1)},
		{true, 2, on(1, 0, 0, 1, 1, 1, 0, 0, 1, 0)},
		{true, 2000, on(0, 1999, 1999, 0)},
		{true, 2000, on(1999, 1999)},
		{false, 0, on(0, 0)},
		{false, 1, on(0, 1)},
		{false, 1, on(1, 0)},
		{false, 2, on(0, 2)},
		{false, 2, on(2, 0)},
		{false, 2, on(2, 2)},
		{false, 2, on(-1, 0)},
		{false, 2, on(0, -1)},
		{false, 2, on(-1, -1)},
		{false, 2000, on(0, 2000)},
		{false, 2000, on(2000, 0)},
		{false, 2001, on(0, 1)},
		{false, -1, on(-1, -1)},
		{false, 0, on(-1, -1)},
		{false, 3, on(math.MinInt, 0)},
		{false, 3, on(0, math.MaxInt)},
		{false, 3, on(1<<32, 1)},
		{false, 3, on(1, 1<<32)},
	} {
		if graph.Right(x.n, x.l...) != x.want {
			t.Errorf("Right(%d, %v) = %t", x.n, x.l, !x.want)
		}
	}
}

// TestRightAsksEachEnd lays one end that is no node among many that are.
func TestRightAsksEachEnd(t *testing.T) {
	l := on(0, 1, 1, 2, 2, 3, 3, 3, 3, 0, 0, 1)
	for i := range l {
		for _, wrong := range []int{-1, 4, math.MinInt, math.MaxInt} {
			from, to := slices.Clone(l), slices.Clone(l)
			from[i].From, to[i].To = wrong, wrong
			for _, l := range [][]api.Edge{from, to} {
				if graph.Right(4, l...) {
					t.Errorf("Right(4, %v) = true", l)
				}
				nothing(t, 4, 0, l...)
			}
		}
	}
	if !graph.Right(4, l...) {
		t.Errorf("Right(4, %v) = false", l)
	}
}

// nothing asks that no further call tells anything.
func nothing(t *testing.T, n int, from int, l ...api.Edge) {
	t.Helper()
	if r := graph.Reach(n, from, l...); len(r) != 0 {
		t.Errorf("Reach(%d, %d, %v) = %d answers", n, from, l, len(r))
	}
	if graph.Right(n, l...) {
		return
	}
	if r := graph.Rings(n, l...); len(r) != 0 {
		t.Errorf("Rings(%d, %v) = %d answers", n, l, len(r))
	}
	if d := graph.Depths(n, l...); len(d) != 0 {
		t.Errorf("Depths(%d, %v) = %d answers", n, l, len(d))
	}
}

func TestWrong(t *testing.T) {
	for _, n := range []int{-1, -2000, 2001, 1 << 32, math.MinInt, math.MaxInt} {
		nothing(t, n, 0)
		nothing(t, n, n-1)
		nothing(t, n, 0, on(0, 0)...)
	}
	for _, l := range [][]api.Edge{on(0, 3), on(3, 0), on(-1, 0), on(0, -1), on(0, 1, 1, 2, 2, 3), on(0, 1, 1, 2, -1, 2)} {
		for from := -1; from <= 3; from++ {
			nothing(t, 3, from, l...)
		}
	}
	// no such node
	for _, from := range []int{-1, 3, 4, math.MinInt, math.MaxInt, 1 << 32} {
		nothing(t, 3, from)
		nothing(t, 3, from, on(0, 1, 1, 2)...)
		nothing(t, 0, from)
	}
	nothing(t, 0, 0)
	nothing(t, 2000, 2000)
}

func TestReach(t *testing.T) {
	l := on(0, 1, 1, 2, 2, 0, 2, 3, 3, 4, 5, 4, 6, 6, 0, 4)
	for from, want := range [][]int{{0, 1, 2, 3, 4}, {0, 1, 2, 3, 4}, {0, 1, 2, 3, 4}, {3, 4}, {4}, {4, 5}, {6}, {7}} {
		r := graph.Reach(8, from, l...)
		if len(r) != 8 {
			t.Errorf("Reach of %d: %d nodes", from, len(r))
		}
		same(t, "Reach", places(r), want)
	}
	for _, x := range []struct {
		n, from int
		l       []api.Edge
		want    []int
	}{
		{1, 0, nil, []int{0}},
		{1, 0, on(0, 0), []int{0}},
		{3, 1, nil, []int{1}},
		{3, 1, on(1, 1, 1, 1), []int{1}},
		{2, 0, on(1, 0), []int{0}},
		{2, 1, on(1, 0), []int{0, 1}},
		{4, 3, on(0, 1, 1, 2, 3, 1), []int{1, 2, 3}},
		// whatever the order of the Edges
		{4, 0, on(2, 3, 1, 2, 0, 1), []int{0, 1, 2, 3}},
		{4, 0, on(0, 1, 1, 2, 2, 3), []int{0, 1, 2, 3}},
		// two ways to one node, and on from there once
		{5, 0, on(0, 1, 0, 2, 1, 3, 2, 3, 3, 4), []int{0, 1, 2, 3, 4}},
		{5, 2, on(0, 1, 0, 2, 1, 3, 2, 3, 3, 4), []int{2, 3, 4}},
	} {
		r := graph.Reach(x.n, x.from, x.l...)
		if len(r) != x.n {
			t.Errorf("Reach(%d, %d, %v): %d nodes", x.n, x.from, x.l, len(r))
		}
		same(t, "Reach", places(r), x.want)
	}
}

func TestRingsAndDepths(t *testing.T) {
	for _, x := range []struct {
		n             int
		l             []api.Edge
		rings, depths []int
	}{
		{0, nil, nil, nil},
		{1, nil, []int{0}, []int{0}},
		{3, nil, []int{0, 1, 2}, []int{0, 0, 0}},
		// the example of the document
		{3, on(0, 1, 1, 2, 2, 1), []int{0, 1, 1}, []int{1, 0, 0}},
		// an Edge that leads back leads not out of its ring
		{1, on(0, 0), []int{0}, []int{0}},
		{2, on(0, 0, 0, 1), []int{0, 1}, []int{1, 0}},
		{2, on(0, 1, 1, 1), []int{0, 1}, []int{1, 0}},
		{2, on(0, 1, 0, 1, 0, 1), []int{0, 1}, []int{1, 0}},
		{2, on(1, 0), []int{0, 1}, []int{0, 1}},
		{2, on(0, 1, 1, 0), []int{0, 0}, []int{0, 0}},
		{4, on(0, 1, 1, 2, 2, 3), []int{0, 1, 2, 3}, []int{3, 2, 1, 0}},
		{4, on(3, 2, 2, 1, 1, 0), []int{0, 1, 2, 3}, []int{0, 1, 2, 3}},
		{4, on(0, 1, 1, 2, 2, 3, 3, 0), []int{0, 0, 0, 0}, []int{0, 0, 0, 0}},
		{4, on(3, 1, 1, 3, 0, 2), []int{0, 1, 2, 1}, []int{1, 0, 0, 0}},
		// the greatest depth, whichever Edge comes first
		{4, on(0, 1, 0, 2, 2, 3, 3, 1), []int{0, 1, 2, 3}, []int{3, 0, 2, 1}},
		{4, on(2, 3, 3, 1, 0, 2, 0, 1), []int{0, 1, 2, 3}, []int{3, 0, 2, 1}},
		{5, on(0, 4, 1, 4, 2, 0, 2, 1, 3, 2, 3, 4), []int{0, 1, 2, 3, 4}, []int{1, 1, 2, 3, 0}},
		// a ring is as deep as the deepest of its nodes makes it
		{5, on(0, 1, 1, 0, 0, 4, 1, 3, 3, 4), []int{0, 0, 2, 3, 4}, []int{2, 2, 0, 1, 0}},
		{5, on(0, 4, 4, 0, 0, 1, 1, 2, 2, 1, 2, 3), []int{0, 1, 1, 3, 0}, []int{2, 1, 1, 0, 2}},
		// rings that lie in one another are one
		{5, on(0, 1, 1, 2, 2, 0, 2, 3, 3, 4, 4, 2), []int{0, 0, 0, 0, 0}, []int{0, 0, 0, 0, 0}},
		{6, on(5, 3, 3, 5, 3, 1, 1, 4, 4, 1, 4, 0, 0, 2), []int{0, 1, 2, 3, 1, 3}, []int{1, 2, 0, 3, 2, 3}},
		{7, on(0, 1, 1, 2, 2, 0, 2, 3, 3, 4, 5, 4, 6, 6, 0, 4), []int{0, 0, 0, 3, 4, 5, 6}, []int{2, 2, 2, 1, 0, 1, 0}},
	} {
		same(t, "Rings", graph.Rings(x.n, x.l...), x.rings)
		same(t, "Depths", graph.Depths(x.n, x.l...), x.depths)
	}
}
