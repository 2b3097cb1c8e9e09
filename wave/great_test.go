package wave_test

import (
	"fmt"
	"math"
	"slices"
	"strings"
	"testing"

	"quilter/api"
	"quilter/wave"
)

// chain answers n targets, t0 and so on: each stands on the next one.
func chain(n int) []api.Target {
	var l []api.Target
	for i := range n {
		l = append(l, on(fmt.Sprintf("t%d", i), "", fmt.Sprintf("t%d", i+1)))
	}
	return l
}

// each answers a Shard of each target.
func each(targets []api.Target) []api.Shard {
	var l []api.Shard
	for i, t := range targets {
		l = append(l, at(i+1, t.Name))
	}
	return l
}

// TestGreatGraph asks at, and above, as many targets as graph tells anything of.
func TestGreatGraph(t *testing.T) {
	for _, n := range []int{1999, 2000, 2001} {
		l := chain(n)
		p := wave.Of(l, each(l))
		for i := range n {
			depth, needs := n-1-i, n-1-i
			if n > api.MaxNodes {
				depth, needs = 0, 0
			}
			if p.Waves[i] != depth || len(p.Needs[i]) != needs || needs > 0 && (p.Needs[i][0] != i+2 || p.Needs[i][needs-1] != n) {
				t.Fatalf("of %d, the Shard %d: wave %d, %d needs", n, i+1, p.Waves[i], len(p.Needs[i]))
			}
		}
		if !wave.Right(p) || len(wave.Behind(p, n)) != len(p.Needs[0]) || wave.Order(p)[0] != 1+len(p.Needs[0]) {
			t.Errorf("of %d: Right is %t, %d are behind the last one", n, wave.Right(p), len(wave.Behind(p, n)))
		}
	}
	// all on one another, each told by its own name
	l := chain(300)
	for i := range l {
		for j := range l {
			l[i].Deps = append(l[i].Deps, l[j].Name)
		}
	}
	p := wave.Of(l, each(l))
	for i := range l {
		if p.Waves[i] != 0 || len(p.Needs[i]) != 299 || slices.Contains(p.Needs[i], i+1) {
			t.Fatalf("the Shard %d: wave %d, %d needs", i+1, p.Waves[i], len(p.Needs[i]))
		}
	}
}

// TestGreatDeps asks of Edges that are there very often.
func TestGreatDeps(t *testing.T) {
	l := chain(300)
	for i := range l {
		l[i].Deps = slices.Repeat(append(l[i].Deps, l[299].Name, "q"), 3000)
	}
	p := wave.Of(l, each(l))
	if !wave.Right(p) || p.Waves[0] != 299 || len(p.Needs[0]) != 299 || p.Waves[298] != 1 || len(p.Needs[299]) != 0 {
		t.Errorf("Of = %v, %d needs", p.Waves, len(p.Needs[0]))
	}
}

// TestGreatTree makes a plan of as many files, and targets, as there may be: above that there is no ring any more.
func TestGreatTree(t *testing.T) {
	var l []string
	for i := range 500 {
		l = append(l, fmt.Sprintf("d%03d/BUILD=target a\nsrc s\ndep d%03d:d\ntarget b\ntarget c\ntarget d\ndep :a", i, max(i-1, 0)), fmt.Sprintf("d%03d/s=old", i))
	}
	p, e := wave.Make(files(l...), []api.Rule{old}, 5)
	if e != api.OK || !wave.Right(p) || len(p.Shards) != 500 || p.Shards[1].Ring != "d001:a" {
		t.Fatalf("Make = %s, %d", short(show(p)), e)
	}
	for i := range 500 {
		// d000:a and d000:d stand on one another
		if want := max(2*i-1, 0); p.Waves[i] != want || len(p.Needs[i]) != i {
			t.Fatalf("the Shard %d: wave %d, %d needs; want %d, %d", i+1, p.Waves[i], len(p.Needs[i]), want, i)
		}
	}
	l[0] += "\ntarget e"
	p, e = wave.Make(files(l...), []api.Rule{old}, 5)
	if e != api.OK || !wave.Right(p) || len(p.Shards) != 100 || slices.Max(p.Waves) != 0 || len(slices.Concat(p.Needs...)) != 0 {
		t.Errorf("Make of one more = %s, %d", short(show(p)), e)
	}
}

// TestGreatLists hands in lists that no tree tells.
func TestGreatLists(t *testing.T) {
	const n = 300000
	l := chain(n)
	p := wave.Of(l, each(l))
	if len(p.Shards) != n || slices.Max(p.Waves) != 0 || len(slices.Concat(p.Needs...)) != 0 || !wave.Right(p) {
		t.Errorf("Of many targets: %d Shards", len(p.Shards))
	}
	// many of one ring, and many that have none
	many := slices.Repeat(shards(":x - :q"), n)
	p = wave.Of([]api.Target{on(":x", "", ":y"), on(":y", "", "")}, append(many, at(5, ":y")))
	if len(p.Needs) != 3*n+1 || p.Waves[3*n-3] != 1 || !slices.Equal(p.Needs[3*n-3], []int{5}) || len(p.Needs[3*n-2])+len(p.Needs[3*n-1])+len(p.Needs[3*n]) != 0 {
		t.Errorf("Of many Shards: %v", p.Needs[3*n-3:])
	}
	// one behind the other
	p = api.Plan{}
	for i := range n {
		p.Shards, p.Waves, p.Needs = append(p.Shards, at(i+1, "")), append(p.Waves, n-1-i), append(p.Needs, nil)
		if i < n-1 {
			p.Needs[i] = []int{i + 2}
		}
	}
	order, behind := wave.Order(p), wave.Behind(p, n)
	if !wave.Right(p) || len(order) != n || order[0] != n || order[n-1] != 1 || len(behind) != n-1 || behind[n-2] != n-1 {
		t.Errorf("%d in order, %d behind the last one", len(order), len(behind))
	}
	if !wave.Same(p, p) || len(wave.Behind(p, 1)) != 0 {
		t.Error("Same, or Behind, of many")
	}
	p.Needs[0] = []int{1}
	if wave.Right(p) || len(wave.Order(p)) != 0 || len(wave.Behind(p, n)) != 0 {
		t.Error("one that needs itself is right")
	}
}

// TestAnyInput asks only that each call ends, and does not panic; and that with an error nothing else is told.
func TestAnyInput(t *testing.T) {
	texts := []string{"", "a", "a/b", ":", "BUILD", "a/BUILD", "OWNERS", "/BUILD", "..", "\n", "\x00", "\xff\xfe", "target x\nsrc a\ndep :x", strings.Repeat("x", 1000)}
	ids := []int{math.MinInt, -1, 0, 1, 2, 3, 100, 101, math.MaxInt}
	lists := [][]int{nil, {}, {1}, {0, 1}, {math.MinInt, 1, math.MaxInt}, {2, 1}, {math.MaxInt}}
	for _, s := range texts {
		for _, u := range texts {
			targets := []api.Target{{}, {Name: s, Srcs: []string{u}, Deps: []string{s, u}}, {Name: u, Deps: []string{s}}, {Name: s}}
			for _, n := range ids {
				l := []api.Shard{{ID: n, Owners: []string{s}, Ring: s, Paths: []string{u, s}}, {}, {ID: 1, Ring: u}}
				wave.Order(wave.Of(targets, l))
				wave.Behind(wave.Of(targets[1:], l[1:]), n)
				for _, tree := range []api.Tree{nil, {{}, {Path: s}, {Path: u, Body: []byte(s)}}, {{Path: "BUILD", Body: []byte(s)}, {Path: "OWNERS", Body: []byte(u)}, {Path: "a", Body: []byte("old")}}} {
					for _, rules := range [][]api.Rule{nil, {old}, {{Kind: n, Glob: s, Old: u, New: s}}} {
						p, e := wave.Make(tree, rules, n)
						if e != api.OK && !wave.Same(p, api.Plan{}) || e == api.OK && !wave.Right(p) {
							t.Errorf("Make(%s, %v, %d) = %s, %d", showTree(tree), rules, n, show(p), e)
						}
					}
				}
			}
		}
	}
	for _, waves := range lists {
		for _, a := range lists {
			for _, b := range lists {
				for _, id := range ids {
					p := api.Plan{Shards: []api.Shard{{ID: 1}, {ID: id}}, Waves: waves, Needs: [][]int{a, b}}
					if !held(t, p) {
						return
					}
					wave.Behind(p, id)
					wave.Same(p, api.Plan{Needs: p.Needs[:1]})
				}
			}
		}
	}
}
