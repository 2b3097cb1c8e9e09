package graph_test

import (
	"slices"
	"testing"

	"quilter/api"
	"quilter/graph"
)

// spoil writes over all that l has, and over the room behind it.
func spoil[T any](l []T, with T) {
	for i := range l[:cap(l)] {
		l[:cap(l)][i] = with
	}
}

func TestNotChanged(t *testing.T) {
	whole := on(0, 1, 1, 2, 2, 1, 3, 0, 9, 9)
	was := slices.Clone(whole)
	// what lies behind the list is somebody else's
	l := whole[:4]
	for range 2 {
		if !graph.Right(4, l...) || graph.Right(4, whole...) {
			t.Error("Right of what is handed in")
		}
		same(t, "Reach", places(graph.Reach(4, 0, l...)), []int{0, 1, 2})
		same(t, "Rings", graph.Rings(4, l...), []int{0, 1, 1, 3})
		same(t, "Depths", graph.Depths(4, l...), []int{1, 0, 0, 2})
	}
	if !slices.Equal(whole, was) {
		t.Errorf("what was handed in is %v", whole)
	}
}

// TestNewMemory asks that what comes out is nobody else's: not of another call, nor of what was handed in.
func TestNewMemory(t *testing.T) {
	l := on(0, 1, 1, 2, 2, 1, 3, 0)
	reach, rings, depths := graph.Reach(4, 0, l...), graph.Rings(4, l...), graph.Depths(4, l...)
	for range 2 {
		spoil(graph.Reach(4, 0, l...), true)
		spoil(graph.Rings(4, l...), 7)
		spoil(graph.Depths(4, l...), 7)
		spoil(graph.Reach(4, 3), true)
		spoil(graph.Rings(4), 7)
		spoil(graph.Depths(4), 7)
		spoil(graph.Rings(0), 7)
	}
	again := []api.Edge{{From: 3, To: 0}, {From: 2, To: 1}, {From: 1, To: 2}, {From: 0, To: 1}}
	same(t, "Rings behind spoilt ones", graph.Rings(4, again...), []int{0, 1, 1, 3})
	spoil(l, api.Edge{From: 3, To: 3})
	same(t, "Reach", places(reach), []int{0, 1, 2})
	same(t, "Rings", rings, []int{0, 1, 1, 3})
	same(t, "Depths", depths, []int{1, 0, 0, 2})
}
