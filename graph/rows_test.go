package graph

import (
	"testing"

	"quilter/api"
)

// TestRingsInOrder asks that a ring is told behind those on which it stands, and none behind the one at which one stopped.
func TestRingsInOrder(t *testing.T) {
	l := []api.Edge{{From: 0, To: 1}, {From: 1, To: 2}, {From: 2, To: 1}, {From: 2, To: 3}, {From: 4, To: 0}}
	want := [][]int{{3}, {1, 2}, {0}, {4}}
	for stop := range want {
		told := 0
		for ring := range rowsOf(5, l).rings() {
			if len(ring) != len(want[told]) || ring[0]+ring[len(ring)-1] != want[told][0]+want[told][len(ring)-1] {
				t.Errorf("the ring %d is %v; want %v", told, ring, want[told])
			}
			if told == stop {
				break
			}
			told++
		}
		if told != stop {
			t.Errorf("%d rings told ahead of %d", told, stop)
		}
	}
}
