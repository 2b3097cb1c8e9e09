package graph_test

import (
	"slices"
	"testing"

	"quilter/api"
	"quilter/graph"
)

// told asks what the calls tell of as many nodes as there may be, node by node.
func told(t *testing.T, l []api.Edge, from int, reached func(i int) bool, ring func(i int) int, depth func(i int) int) {
	t.Helper()
	const n = api.MaxNodes
	if !graph.Right(n, l...) {
		t.Error("Right = false")
	}
	reach, rings, depths := graph.Reach(n, from, l...), graph.Rings(n, l...), graph.Depths(n, l...)
	if len(reach) != n || len(rings) != n || len(depths) != n {
		t.Fatalf("%d, %d, %d answers", len(reach), len(rings), len(depths))
	}
	for i := range n {
		if reach[i] != reached(i) || rings[i] != ring(i) || depths[i] != depth(i) {
			t.Fatalf("of %d: %t, ring %d, depth %d; want %t, %d, %d", i, reach[i], rings[i], depths[i], reached(i), ring(i), depth(i))
		}
	}
}

func itself(i int) int { return i }

func none(int) int { return 0 }

func all(int) bool { return true }

// TestRowsOfAllNodes asks of nodes that stand one on another, as many as there may be.
func TestRowsOfAllNodes(t *testing.T) {
	var down, up []api.Edge
	for i := range api.MaxNodes - 1 {
		down = append(down, api.Edge{From: i, To: i + 1})
		up = append(up, api.Edge{From: i + 1, To: i})
	}
	fromTop := func(i int) int { return 1999 - i }
	for range 2 {
		told(t, down, 0, all, itself, fromTop)
		told(t, down, 1000, func(i int) bool { return i >= 1000 }, itself, fromTop)
		told(t, up, 1999, all, itself, itself)
		told(t, up, 1000, func(i int) bool { return i <= 1000 }, itself, itself)
		slices.Reverse(down)
		slices.Reverse(up)
	}
	told(t, append(down, api.Edge{From: 1999}), 1000, all, none, none)
	told(t, slices.Concat(up, down), 1000, all, none, none)
	// one more Edge makes half of the row a ring, on which the rest stands
	half := append(up, api.Edge{From: 0, To: 999})
	above := func(i int) bool { return i >= 1000 }
	ring := func(i int) int {
		if above(i) {
			return i
		}
		return 0
	}
	told(t, half, 500, func(i int) bool { return !above(i) }, ring, func(i int) int { return max(i-999, 0) })
}

// TestAllEdges asks of as many Edges as there are, each once.
func TestAllEdges(t *testing.T) {
	var l, down []api.Edge
	for i := range api.MaxNodes {
		for j := range api.MaxNodes {
			l = append(l, api.Edge{From: i, To: j})
			if i >= j {
				down = append(down, api.Edge{From: i, To: j})
			}
		}
	}
	told(t, l, 7, all, none, none)
	told(t, down, 1000, func(i int) bool { return i <= 1000 }, itself, itself)
}

// TestOneEdgeOften asks of one Edge, a million times there.
func TestOneEdgeOften(t *testing.T) {
	depth := func(i int) int { return max(i-1998, 0) }
	often := slices.Repeat([]api.Edge{{From: 1999, To: 5}}, 1<<20)
	told(t, often, 1999, func(i int) bool { return i == 5 || i == 1999 }, itself, depth)
	told(t, append(often, often[0], api.Edge{From: 5, To: 5}), 5, func(i int) bool { return i == 5 }, itself, depth)
}

// TestPairs asks of rings of two, each on the one ahead of it.
func TestPairs(t *testing.T) {
	var l []api.Edge
	for i := range api.MaxNodes / 2 {
		l = append(l, on(i, 1999-i, 1999-i, i)...)
		if i > 0 {
			l = append(l, on(1999-i, i-1)...)
		}
	}
	ring := func(i int) int { return min(i, 1999-i) }
	told(t, l, 1299, func(i int) bool { return ring(i) <= 700 }, ring, ring)
}
