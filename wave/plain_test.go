package wave_test

import (
	"fmt"
	"math/rand"
	"slices"
	"strings"
	"testing"

	"quilter/api"
	"quilter/build"
	"quilter/shard"
	"quilter/wave"
)

// place answers the first target of that name; -1, if there is none.
func place(l []api.Target, name string) int {
	for i := range l {
		if l[i].Name == name {
			return i
		}
	}
	return -1
}

// plainReach answers of each target which ones it reaches: by ways over more and more places.
func plainReach(l []api.Target) [][]bool {
	reach := make([][]bool, len(l))
	for i := range l {
		reach[i] = make([]bool, len(l))
		reach[i][i] = true
	}
	for i := range l {
		for _, d := range l[i].Deps {
			if to := place(l, d); to >= 0 {
				reach[i][to] = true
			}
		}
	}
	for k := range l {
		for i := range l {
			for j := range l {
				reach[i][j] = reach[i][j] || reach[i][k] && reach[k][j]
			}
		}
	}
	return reach
}

// plainDepth answers how deep a target stands: one more than the deepest one that it reaches, and that does not reach it.
func plainDepth(reach [][]bool, i int) int {
	depth := 0
	for j := range reach {
		if reach[i][j] && !reach[j][i] {
			depth = max(depth, 1+plainDepth(reach, j))
		}
	}
	return depth
}

// plainOf says the chapter's words over again.
func plainOf(targets []api.Target, l []api.Shard) api.Plan {
	reach := plainReach(targets)
	node := func(s api.Shard) int {
		if len(s.Ring) == 0 {
			return -1
		}
		return place(targets, s.Ring)
	}
	p := api.Plan{Shards: l}
	for _, s := range l {
		depth, needs := 0, []int{}
		if node(s) >= 0 {
			depth = plainDepth(reach, node(s))
			for _, o := range l {
				if node(o) >= 0 && o.Ring != s.Ring && reach[node(s)][node(o)] {
					needs = append(needs, o.ID)
				}
			}
		}
		p.Waves = append(p.Waves, depth)
		p.Needs = append(p.Needs, needs)
	}
	return p
}

// plainRight says the chapter's words over again.
func plainRight(p api.Plan) bool {
	if len(p.Waves) != len(p.Shards) || len(p.Needs) != len(p.Shards) {
		return false
	}
	for i, s := range p.Shards {
		if s.ID != i+1 || p.Waves[i] < 0 {
			return false
		}
		for j, id := range p.Needs[i] {
			if j > 0 && id <= p.Needs[i][j-1] {
				return false
			}
			if k := slices.IndexFunc(p.Shards, func(o api.Shard) bool { return o.ID == id }); k < 0 || p.Waves[k] >= p.Waves[i] {
				return false
			}
		}
	}
	return true
}

// plainOrder says the chapter's words over again, wave by wave.
func plainOrder(p api.Plan) []int {
	if !plainRight(p) || len(p.Waves) == 0 {
		return nil
	}
	var ids []int
	for w := range slices.Max(p.Waves) + 1 {
		for i := range p.Shards {
			if p.Waves[i] == w {
				ids = append(ids, i+1)
			}
		}
	}
	return ids
}

// needing tells whether the shard i needs id, or one that does, and so on.
func needing(p api.Plan, i int, id int) bool {
	return slices.ContainsFunc(p.Needs[i-1], func(n int) bool { return n == id || needing(p, n, id) })
}

// plainBehind says the chapter's words over again.
func plainBehind(p api.Plan, id int) []int {
	var ids []int
	if plainRight(p) {
		for i := range p.Shards {
			if needing(p, i+1, id) {
				ids = append(ids, i+1)
			}
		}
	}
	return ids
}

// agrees holds Of against the plain words; it tells whether all is well.
func agrees(t *testing.T, targets []api.Target, l []api.Shard) bool {
	t.Helper()
	got, want := wave.Of(targets, l), plainOf(targets, l)
	if show(got) != show(want) || !wave.Same(got, want) {
		t.Errorf("Of(%v) = %s; want %s", targets, show(got), show(want))
		return false
	}
	return held(t, got)
}

// held holds Right, Order and Behind of p against the plain words; it tells whether all is well.
func held(t *testing.T, p api.Plan) bool {
	t.Helper()
	if got, want := wave.Right(p), plainRight(p); got != want {
		t.Errorf("Right(%s) = %t; want %t", show(p), got, want)
		return false
	}
	if got, want := wave.Order(p), plainOrder(p); !slices.Equal(got, want) {
		t.Errorf("Order(%s) = %v; want %v", show(p), got, want)
		return false
	}
	for id := -1; id <= len(p.Shards)+1; id++ {
		if got, want := wave.Behind(p, id), plainBehind(p, id); !slices.Equal(got, want) {
			t.Errorf("Behind(%s, %d) = %v; want %v", show(p), id, got, want)
			return false
		}
	}
	return true
}

// subset answers the words whose bits are set in bits.
func subset(bits int, words ...string) []string {
	var l []string
	for i, w := range words {
		if bits>>i&1 == 1 {
			l = append(l, w)
		}
	}
	return l
}

// TestAllThreeTargets holds Of against the plain words of three targets that stand on one another in all ways, also where two are of one name.
func TestAllThreeTargets(t *testing.T) {
	for _, names := range [][]string{{":x", ":y", ":z"}, {":x", ":y", ":x"}, {":x", ":x", ":y"}, {"", ":x", ":y"}} {
		for ways := range 512 {
			var targets []api.Target
			for i := range names {
				targets = append(targets, api.Target{Name: names[i], Deps: subset(ways>>(3*i)&7, names...)})
			}
			if !agrees(t, targets, shards(":y :x - :z :x :q")) || !agrees(t, targets, shards(":x :y :z")) {
				return
			}
		}
	}
}

// TestDrawnTargets holds Of against the plain words of drawn targets and shards.
func TestDrawnTargets(t *testing.T) {
	r := rand.New(rand.NewSource(1))
	right, deep := 0, 0
	for range 20000 {
		n := 1 + r.Intn(10)
		var targets []api.Target
		for i := range n {
			target := api.Target{Name: fmt.Sprintf(":%d", i)}
			if r.Intn(20) == 0 {
				target.Name = fmt.Sprintf(":%d", r.Intn(n))
			}
			for range r.Intn(4) {
				d := r.Intn(n)
				if r.Intn(4) > 0 {
					d = r.Intn(i + 1)
				}
				target.Deps = append(target.Deps, fmt.Sprintf(":%d", d))
			}
			targets = append(targets, target)
		}
		r.Shuffle(n, func(i, j int) { targets[i], targets[j] = targets[j], targets[i] })
		var l []api.Shard
		for i := range r.Intn(10) {
			l = append(l, at(i+1, fmt.Sprintf(":%d", r.Intn(n+1))))
			if r.Intn(10) == 0 {
				l[i].Ring = ""
			}
			if r.Intn(50) == 0 {
				l[i].ID = r.Intn(12) - 1
			}
		}
		if !agrees(t, targets, l) {
			return
		}
		if p := wave.Of(targets, l); wave.Right(p) && len(l) > 0 {
			right++
			deep = max(deep, slices.Max(p.Waves))
		}
	}
	if right < 5000 || right > 18000 || deep < 5 {
		t.Errorf("%d Plans are right, %d deep at most", right, deep)
	}
}

// TestAllPlansOfTwo holds Right, Order and Behind against the plain words of all Plans of two Shards of some IDs, waves and needs; also such as have fewer, or more, of these.
func TestAllPlansOfTwo(t *testing.T) {
	needs := [][]int{nil, {1}, {2}, {1, 2}, {2, 1}, {1, 1}, {0}, {3}, {-1, 1}}
	for ids := range 16 {
		for waves := range 16 {
			for both := range 81 {
				whole := api.Plan{
					Shards: []api.Shard{{ID: ids % 4}, {ID: ids / 4}, {ID: 3}},
					Waves:  []int{waves%4 - 1, waves/4 - 1, 0},
					Needs:  [][]int{needs[both%9], needs[both/9], nil},
				}
				for cut := range 27 {
					p := api.Plan{Shards: whole.Shards[:1+cut%3], Waves: whole.Waves[:1+cut/3%3], Needs: whole.Needs[:1+cut/9]}
					if !held(t, p) {
						return
					}
				}
			}
		}
	}
}

// TestAllPlansOfThree does so with three, of all IDs, and of all needs that rise.
func TestAllPlansOfThree(t *testing.T) {
	right := 0
	for waves := range 27 {
		for all := range 512 {
			p := plan("0 0 0")
			for i := range 3 {
				p.Waves[i] = []int{waves % 3, waves / 3 % 3, waves / 9}[i]
				p.Needs = append(p.Needs, numbers(strings.Join(subset(all>>(3*i)&7, "1", "2", "3"), " ")))
			}
			if !held(t, p) {
				return
			}
			if wave.Right(p) {
				right++
			}
		}
	}
	if right < 50 {
		t.Errorf("%d Plans are right", right)
	}
}

// TestDrawnPlans does so with more, most of them Right.
func TestDrawnPlans(t *testing.T) {
	r := rand.New(rand.NewSource(2))
	right, most := 0, 0
	for range 20000 {
		n := r.Intn(10)
		var p api.Plan
		for i := range n {
			p.Shards = append(p.Shards, at(i+1, ""))
			p.Waves = append(p.Waves, r.Intn(5))
		}
		for i := range n {
			var needs []int
			for id := 1; id <= n; id++ {
				if p.Waves[id-1] < p.Waves[i] && r.Intn(4) == 0 || r.Intn(1000) == 0 {
					needs = append(needs, id)
				}
			}
			p.Needs = append(p.Needs, needs)
		}
		if !held(t, p) {
			return
		}
		if wave.Right(p) {
			right++
			for id := range n {
				most = max(most, len(wave.Behind(p, id+1)))
			}
		}
	}
	if right < 15000 || right > 19900 || most < 6 {
		t.Errorf("%d Plans are right, %d at most are behind one", right, most)
	}
}

// drawnTree answers a tree of some files, and what is built of them, in four directories.
func drawnTree(r *rand.Rand) api.Tree {
	dirs := []string{"", "a/", "b/", "b/c/"}
	names := []string{"x", "y", "z"}
	var l []string
	for i, dir := range dirs {
		var b strings.Builder
		for _, name := range names {
			fmt.Fprintf(&b, "target %s\n", name)
			for range r.Intn(3) {
				fmt.Fprintf(&b, "src %s\n", []string{"p", "q", "r"}[r.Intn(3)])
			}
			for range r.Intn(3) {
				to := r.Intn(i + 1)
				if r.Intn(4) == 0 {
					to = r.Intn(len(dirs))
				}
				fmt.Fprintf(&b, "dep %s:%s\n", strings.TrimSuffix(dirs[to], "/"), names[r.Intn(3)])
			}
		}
		l = append(l, dir+"BUILD="+b.String())
		for _, name := range []string{"p", "q", "r"} {
			if r.Intn(5) > 0 {
				l = append(l, dir+name+"="+[]string{"old", "old old", "new"}[r.Intn(3)])
			}
		}
		if r.Intn(4) == 0 {
			l = append(l, dir+"OWNERS="+[]string{"ann", "bob", "per-file p* cy"}[r.Intn(3)])
		}
	}
	return files(l...)
}

// builtOf answers the places of all targets of which s is a file.
func builtOf(targets []api.Target, s string) []int {
	var l []int
	for i := range targets {
		if slices.Contains(targets[i].Srcs, s) {
			l = append(l, i)
		}
	}
	return l
}

// TestDrawnTrees holds Make against the plain words, and asks of what it tells what holds: what a file's target stands on is of an earlier wave, or in its ring.
func TestDrawnTrees(t *testing.T) {
	r := rand.New(rand.NewSource(3))
	needed, deep := 0, 0
	for range 4000 {
		tree, most := drawnTree(r), 1+r.Intn(3)
		parted, e := shard.Split(tree, []api.Rule{old}, most)
		targets, f := build.All(tree)
		if e != api.OK || f != api.OK {
			t.Fatalf("of %s: errors %d, %d", showTree(tree), e, f)
		}
		want := plainOf(targets, parted)
		makes(t, tree, []api.Rule{old}, most, want)
		if t.Failed() || !agrees(t, targets, parted) {
			return
		}
		// shards whose rings are told by the only target of a file
		reach := plainReach(targets)
		p, _ := wave.Make(tree, []api.Rule{old}, most)
		for i, s := range p.Shards {
			for j, o := range p.Shards {
				from, to := builtOf(targets, s.Paths[0]), builtOf(targets, o.Paths[0])
				if len(from) != 1 || len(to) != 1 || !reach[from[0]][to[0]] || reach[to[0]][from[0]] {
					continue
				}
				needed++
				deep = max(deep, p.Waves[i])
				if !slices.Contains(p.Needs[i], j+1) || p.Waves[j] >= p.Waves[i] {
					t.Fatalf("of %s: %s: %d needs not %d", showTree(tree), show(p), i+1, j+1)
				}
			}
		}
	}
	if needed < 2000 || deep < 6 {
		t.Errorf("%d are needed, %d deep at most", needed, deep)
	}
}
