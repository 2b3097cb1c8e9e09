package graph_test

import (
	"math"
	"math/rand"
	"slices"
	"testing"

	"quilter/api"
	"quilter/graph"
)

// plainRight says the chapter's words over again.
func plainRight(n int, l []api.Edge) bool {
	if n < 0 || n > 2000 {
		return false
	}
	return !slices.ContainsFunc(l, func(e api.Edge) bool { return e.From < 0 || e.From >= n || e.To < 0 || e.To >= n })
}

// plainReach says the chapter's words over again, of each node: by ways that are longer and longer, till none tells more.
func plainReach(n int, l []api.Edge) [][]bool {
	reach := make([][]bool, n)
	for from := range reach {
		reach[from] = make([]bool, n)
		reach[from][from] = true
		for more := true; more; {
			more = false
			for _, e := range l {
				if reach[from][e.From] && !reach[from][e.To] {
					reach[from][e.To], more = true, true
				}
			}
		}
	}
	return reach
}

// plainRings says the chapter's words over again.
func plainRings(reach [][]bool) []int {
	var rings []int
	for i := range reach {
		least := 0
		for !reach[i][least] || !reach[least][i] {
			least++
		}
		rings = append(rings, least)
	}
	return rings
}

// plainDepths says the chapter's words over again: no ring is less deep than one more than those to which its Edges lead, and none is deeper than that makes it.
func plainDepths(rings []int, l []api.Edge) []int {
	depths := make([]int, len(rings))
	for more := true; more; {
		more = false
		for _, e := range l {
			from, to := rings[e.From], rings[e.To]
			if from != to && depths[from] <= depths[to] {
				depths[from], more = depths[to]+1, true
			}
		}
	}
	for i, ring := range rings {
		depths[i] = depths[ring]
	}
	return depths
}

// held holds all calls against the plain words, and what the chapter says holds.
func held(t *testing.T, n int, l []api.Edge) bool {
	t.Helper()
	if graph.Right(n, l...) != plainRight(n, l) {
		t.Errorf("Right(%d, %v) = %t", n, l, !plainRight(n, l))
		return false
	}
	if !plainRight(n, l) {
		nothing(t, n, 0, l...)
		return !t.Failed()
	}
	reach := plainReach(n, l)
	rings, depths := graph.Rings(n, l...), graph.Depths(n, l...)
	if want := plainRings(reach); !slices.Equal(rings, want) {
		t.Errorf("Rings(%d, %v) = %v; want %v", n, l, rings, want)
		return false
	}
	if want := plainDepths(rings, l); !slices.Equal(depths, want) {
		t.Errorf("Depths(%d, %v) = %v; want %v", n, l, depths, want)
		return false
	}
	for from := range n {
		if got := graph.Reach(n, from, l...); !slices.Equal(got, reach[from]) {
			t.Errorf("Reach(%d, %d, %v) = %v; want %v", n, from, l, got, reach[from])
			return false
		}
	}
	for _, e := range l {
		if rings[e.From] != rings[e.To] && depths[e.From] <= depths[e.To] || rings[e.From] == rings[e.To] && depths[e.From] != depths[e.To] {
			t.Errorf("of %d, %v: %v, %v: %v is not deeper", n, l, rings, depths, e)
			return false
		}
	}
	return true
}

// TestAllSmallGraphs holds all sets of Edges of up to four nodes against the plain words, in either order.
func TestAllSmallGraphs(t *testing.T) {
	for n := range 5 {
		for set := range 1 << (n * n) {
			var l []api.Edge
			for i := range n * n {
				if set>>i&1 == 1 {
					l = append(l, api.Edge{From: i / n, To: i % n})
				}
			}
			if set%2 == 1 {
				slices.Reverse(l)
			}
			if !held(t, n, l) {
				return
			}
		}
	}
}

// TestAllShortRows holds all rows of three Edges, also such as there are not, against the plain words.
func TestAllShortRows(t *testing.T) {
	var edges []api.Edge
	for from := -1; from <= 3; from++ {
		for to := -1; to <= 3; to++ {
			edges = append(edges, api.Edge{From: from, To: to})
		}
	}
	for n := -1; n <= 4; n++ {
		for _, a := range edges {
			for _, b := range edges {
				for _, c := range edges {
					if !held(t, n, []api.Edge{a, b, c}) {
						return
					}
				}
			}
		}
	}
}

// drawn answers Edges of n nodes, most of them from later ones to earlier ones, or the other way round.
func drawn(r *rand.Rand, n int, count int, back int) []api.Edge {
	names := r.Perm(n)
	var l []api.Edge
	for range count {
		a, b := r.Intn(n), r.Intn(n)
		if a < b && r.Intn(100) >= back {
			a, b = b, a
		}
		l = append(l, api.Edge{From: names[a], To: names[b]})
	}
	return l
}

// TestDrawnGraphs holds drawn Edges against the plain words; their order, and one that is there twice, makes no difference.
func TestDrawnGraphs(t *testing.T) {
	r := rand.New(rand.NewSource(1))
	rings, deep := 0, 0
	for range 6000 {
		n := 1 + r.Intn(20)
		l := drawn(r, n, r.Intn(3*n), []int{0, 2, 10, 50, 100}[r.Intn(5)])
		if !held(t, n, l) {
			return
		}
		other := slices.Concat(l, l[:len(l)/2])
		r.Shuffle(len(other), func(i, j int) { other[i], other[j] = other[j], other[i] })
		if !slices.Equal(graph.Rings(n, l...), graph.Rings(n, other...)) || !slices.Equal(graph.Depths(n, l...), graph.Depths(n, other...)) || !slices.Equal(graph.Reach(n, n/2, l...), graph.Reach(n, n/2, other...)) {
			t.Errorf("of %d, %v and %v not the same is told", n, l, other)
		}
		for i, ring := range graph.Rings(n, l...) {
			rings += min(i-ring, 1)
		}
		deep = max(deep, slices.Max(graph.Depths(n, l...)))
	}
	if rings < 5000 || deep < 8 {
		t.Errorf("%d nodes in rings of others, %d deep at most", rings, deep)
	}
}

func TestDrawnGreatGraphs(t *testing.T) {
	r := rand.New(rand.NewSource(2))
	for range 40 {
		n := 100 + r.Intn(100)
		if !held(t, n, drawn(r, n, n+r.Intn(n), r.Intn(10))) {
			return
		}
	}
}

// TestAnyInput hands everything in everywhere: each call ends, and none panics.
func TestAnyInput(t *testing.T) {
	r := rand.New(rand.NewSource(3))
	odd := []int{math.MinInt, math.MaxInt, math.MinInt32, math.MaxInt32, 1 << 32, -1, 0, 1, 2, 3, 1999, 2000, 2001}
	number := func() int {
		switch r.Intn(10) {
		case 0:
			return odd[r.Intn(len(odd))]
		case 1:
			return int(r.Uint64())
		}
		return r.Intn(7)
	}
	right := 0
	for range 50000 {
		n, from := number(), number()
		var l []api.Edge
		for range r.Intn(6) {
			l = append(l, api.Edge{From: min(number(), number()), To: min(number(), number())})
		}
		if graph.Right(n, l...) != plainRight(n, l) {
			t.Fatalf("Right(%d, %v) = %t", n, l, !plainRight(n, l))
		}
		if !plainRight(n, l) || from < 0 || from >= n {
			nothing(t, n, from, l...)
			continue
		}
		right++
		reach, rings, depths := graph.Reach(n, from, l...), graph.Rings(n, l...), graph.Depths(n, l...)
		if len(reach) != n || len(rings) != n || len(depths) != n || !reach[from] {
			t.Fatalf("of %d, %d, %v: %d, %d, %d answers", n, from, l, len(reach), len(rings), len(depths))
		}
	}
	if right < 5000 || right > 45000 {
		t.Errorf("%d of the inputs are right", right)
	}
}
