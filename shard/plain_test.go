package shard_test

import (
	"fmt"
	"math/rand"
	"slices"
	"strings"
	"testing"

	"quilter/api"
	"quilter/build"
	"quilter/owners"
	"quilter/rewrite"
	"quilter/shard"
)

// plainEdges says the chapter's words over again.
func plainEdges(l []api.Target) []api.Edge {
	var out []api.Edge
	for i := range l {
		for j := range l[i].Deps {
			if p := build.Place(l, l[i].Deps[j]); p != -1 {
				out = append(out, api.Edge{From: i, To: p})
			}
		}
	}
	return out
}

// plainRings answers of each target the least place that it reaches, and that reaches it: by ways over more and more places.
func plainRings(l []api.Target) []int {
	reach := make([][]bool, len(l))
	for i := range l {
		reach[i] = make([]bool, len(l))
		reach[i][i] = true
	}
	for _, e := range plainEdges(l) {
		reach[e.From][e.To] = true
	}
	for k := range l {
		for i := range l {
			for j := range l {
				reach[i][j] = reach[i][j] || reach[i][k] && reach[k][j]
			}
		}
	}
	rings := make([]int, len(l))
	for i := range l {
		for !reach[i][rings[i]] || !reach[rings[i]][i] {
			rings[i]++
		}
	}
	return rings
}

// plainRing says the chapter's words over again.
func plainRing(l []api.Target, s string) string {
	var all []int
	for i, r := range plainRings(l) {
		for _, src := range l[i].Srcs {
			if src == s {
				all = append(all, r)
			}
		}
	}
	if len(all) == 0 {
		return ""
	}
	slices.Sort(all)
	return l[all[0]].Name
}

// plainSplit says the chapter's words over again: each path looks for one ahead of it that is of its heap.
func plainSplit(t api.Tree, l []api.Rule, most int) ([]api.Shard, api.Errno) {
	if most <= 0 || most > 100 {
		return nil, api.ErrArg
	}
	if _, e := rewrite.Tree(l, t); e != 0 {
		return nil, e
	}
	paths, e := rewrite.Changed(l, t)
	if e != 0 {
		return nil, e
	}
	targets, e := build.All(t)
	if e != 0 {
		return nil, e
	}
	var whole []api.Shard // a heap each
	for _, p := range paths {
		names, e := owners.Of(t, p)
		if e != 0 {
			return nil, e
		}
		i := 0
		for i < len(whole) && (whole[i].Ring != plainRing(targets, p) || !slices.Equal(whole[i].Owners, names)) {
			i++
		}
		if i == len(whole) {
			whole = append(whole, api.Shard{Owners: names, Ring: plainRing(targets, p)})
		}
		whole[i].Paths = append(whole[i].Paths, p)
	}
	var out []api.Shard
	for _, h := range whole {
		for i := range h.Paths {
			if i%most == 0 {
				out = append(out, api.Shard{ID: len(out) + 1, Owners: h.Owners, Ring: h.Ring})
			}
			out[len(out)-1].Paths = append(out[len(out)-1].Paths, h.Paths[i])
		}
	}
	return out, 0
}

// agrees asks it of Edges, and of Ring of these files; it tells whether all is well.
func agrees(t *testing.T, l []api.Target, files ...string) bool {
	t.Helper()
	if got, want := shard.Edges(l), plainEdges(l); !slices.Equal(got, want) {
		t.Errorf("Edges(%v) = %v; want %v", l, got, want)
		return false
	}
	for _, s := range files {
		if got, want := shard.Ring(l, s), plainRing(l, s); got != want {
			t.Errorf("Ring(%v, %q) = %q; want %q", l, s, got, want)
			return false
		}
	}
	return true
}

// subset answers the words whose bits are set in bits.
func subset(bits int, words ...string) []string {
	var l []string
	for i, w := range words {
		if bits>>i&1 == 1 {
			l = append(l, w)
		}
	}
	return l
}

// TestAllThreeTargets asks it of three targets that stand on one another in all ways, and of which a file is built in all ways; also where two are of one name.
func TestAllThreeTargets(t *testing.T) {
	for _, names := range []string{"x y z", "x x z", "x y x", "x y y", "z y x"} {
		three := strings.Fields(names)
		for bits := range 1 << 12 {
			var l []api.Target
			for i, name := range three {
				of := bits >> (4 * i)
				l = append(l, api.Target{Name: name, Srcs: subset(of, "s"), Deps: subset(of>>1, three[0], three[1], three[2])})
			}
			if !agrees(t, l, "s", "t") {
				return
			}
		}
	}
}

// drawn answers one of these.
func drawn(r *rand.Rand, l ...string) string {
	return l[r.Intn(len(l))]
}

// drawnWords answers fewer than n of these, as they come.
func drawnWords(r *rand.Rand, n int, l ...string) []string {
	var out []string
	for range r.Intn(n) {
		out = append(out, drawn(r, l...))
	}
	return out
}

// TestDrawnTargets asks it of drawn ones.
func TestDrawnTargets(t *testing.T) {
	r := rand.New(rand.NewSource(14))
	for range 20000 {
		names := strings.Fields("a b c d e f g h i j k l")[:1+r.Intn(12)]
		var l []api.Target
		for range r.Intn(12) {
			l = append(l, api.Target{Name: drawn(r, names...), Srcs: drawnWords(r, 4, "s", "t", "u", "v", "s/t"), Deps: drawnWords(r, 4, append(names, "z", "")...)})
		}
		if !agrees(t, l, "s", "t", "u", "v", "w", "") {
			return
		}
	}
}

// texts are what OWNERS, and BUILD, of a directory tell: most of them what may be.
var (
	ownersTexts = []string{"ann", "bob", "ann\nbob", "bob\nann", "set noparent", "set noparent\ncy", "per-file *.go bob", "per-file x* ann cy\nbob", "per-file x cy\nset noparent", "", "# nobody", "?"}
	buildTexts  = []string{"target x\nsrc x", "target x\nsrc x\nsrc y.go\ntarget z\nsrc y.go\nsrc z", "target y\nsrc y.go\ndep :y", "target x\nsrc x\nsrc z\ndep a:x\ntarget y\nsrc z", "target x\ndep b:x\ntarget y\nsrc x\nsrc y.go", "target x\nsrc x\ndep a/b:x", "target x\nsrc b/x\ntarget y\nsrc x\ndep :x", "", "target x\ntarget x", "dep"}
)

// drawnSplit answers a tree and rules; few may not be.
func drawnSplit(r *rand.Rand) (api.Tree, []api.Rule) {
	var l []string
	for _, dir := range []string{"", "a/", "a/b/", "b/", "c/"} {
		if r.Intn(2) == 0 {
			l = append(l, dir+"OWNERS="+drawn(r, ownersTexts[:len(ownersTexts)-min(r.Intn(6), 1)]...))
		}
		if r.Intn(2) == 0 {
			l = append(l, dir+"BUILD="+drawn(r, buildTexts[:len(buildTexts)-min(r.Intn(6), 2)]...))
		}
		for _, name := range []string{"x", "y.go", "z", "xx"} {
			if r.Intn(3) > 0 {
				l = append(l, dir+name+"="+drawn(r, "old", "old", "old", "new", "other", ""))
			}
		}
	}
	rules := []api.Rule{old}
	for range r.Intn(3) {
		switch r.Intn(6) {
		case 0:
			rules = append(rules, api.Rule{Kind: api.Remove, Glob: drawn(r, "**/x", "c/**", "**/BUILD", "*")})
		case 1:
			rules = append(rules, api.Rule{Kind: api.Rename, Glob: "**", Old: drawn(r, "a", "b", "a/b", "c/x"), New: drawn(r, "d", "a", "c/w")})
		case 2:
			rules = append(rules, api.Rule{Kind: api.Strike, Glob: "**", Old: drawn(r, "other", "ann", "target x")})
		case 3:
			rules[0].Glob = drawn(r, "**/*.go", "a/**", "*/*", "**/x")
		}
	}
	return files(l...), rules
}

// parts asks what holds of all shards: they part just what changes, by owners and rings, in rows that are full but for a heap's last one; it answers what is not so.
func parts(t api.Tree, l []api.Rule, most int, shards []api.Shard) string {
	changed, _ := rewrite.Changed(l, t)
	targets, _ := build.All(t)
	var all, heaps []string
	for i, s := range shards {
		all = append(all, s.Paths...)
		for _, p := range s.Paths {
			names, e := owners.Of(t, p)
			if e != api.OK || !slices.Equal(names, s.Owners) || shard.Ring(targets, p) != s.Ring {
				return fmt.Sprintf("%s is not of %d", p, s.ID)
			}
		}
		heap := fmt.Sprintf("%q %q", s.Owners, s.Ring)
		switch {
		case i > 0 && heap == heaps[len(heaps)-1]:
			if len(shards[i-1].Paths) < most {
				return fmt.Sprintf("%d is not full", i)
			}
		case slices.Contains(heaps, heap):
			return fmt.Sprintf("%d is of a heap further ahead", s.ID)
		default:
			heaps = append(heaps, heap)
		}
	}
	slices.Sort(all)
	if !slices.Equal(all, changed) || !shard.Right(shards, most) {
		return fmt.Sprintf("%q are not %q", all, changed)
	}
	return ""
}

// TestDrawnSplits holds drawn trees and rules against the plain words, and against what holds.
func TestDrawnSplits(t *testing.T) {
	r := rand.New(rand.NewSource(41))
	told, lengths := map[api.Errno]int{}, map[int]int{}
	for range 12000 {
		tree, rules := drawnSplit(r)
		most := r.Intn(5)
		if most == 0 {
			most = r.Intn(104) - 1
		}
		got, e := shard.Split(tree, rules, most)
		want, f := plainSplit(tree, rules, most)
		if e != f || show(got) != show(want) {
			t.Fatalf("Split(%s, %v, %d) = %s, %d; want %s, %d", showTree(tree), rules, most, show(got), e, show(want), f)
		}
		told[e]++
		lengths[len(got)]++
		if e != api.OK {
			continue
		}
		if what := parts(tree, rules, most, got); what != "" {
			t.Fatalf("Split(%s, %v, %d) = %s: %s", showTree(tree), rules, most, show(got), what)
		}
	}
	for _, e := range []api.Errno{api.ErrArg, api.ErrLine, api.ErrTwice, api.ErrDep, api.ErrThere} {
		if told[e] < 50 {
			t.Errorf("of error %d there are %d", e, told[e])
		}
	}
	if told[api.OK] < 3000 || lengths[1] < 100 || lengths[5] < 100 || lengths[9] < 50 {
		t.Errorf("%v, of lengths %v", told, lengths)
	}
}

// plainRight says the chapter's words over again.
func plainRight(l []api.Shard, most int) bool {
	var all []string
	for i := range l {
		for _, rising := range [][]string{l[i].Owners, l[i].Paths} {
			if sorted := slices.Compact(slices.Sorted(slices.Values(rising))); !slices.Equal(sorted, rising) {
				return false
			}
		}
		if n := len(l[i].Paths); n == 0 || n > most || l[i].ID-1 != i {
			return false
		}
		all = append(all, l[i].Paths...)
	}
	n := len(all)
	slices.Sort(all)
	return len(slices.Compact(all)) == n
}

// TestAllShortRight holds all lists of two Shards, and many of three, against the plain words; and Same of each two Shards.
func TestAllShortRight(t *testing.T) {
	var forms []api.Shard
	for id := range 4 {
		for _, names := range []string{"", "a", "b", "a b", "b a", "a a"} {
			for _, paths := range []string{"", "a", "b", "a b", "b a", "b b", "a b c", "c", "a c b"} {
				forms = append(forms, of(id, names, "abc"[:id%3], paths))
			}
		}
	}
	is := map[bool]int{}
	agree := func(l ...api.Shard) {
		for most := range 4 {
			want := plainRight(l, most)
			is[want]++
			right(t, l, most, want)
		}
	}
	r := rand.New(rand.NewSource(15))
	for _, a := range forms {
		agree(a)
		for _, b := range forms {
			if same := shard.Same([]api.Shard{a}, []api.Shard{b}); same != (show([]api.Shard{a}) == show([]api.Shard{b})) {
				t.Errorf("Same(%s, %s) = %t", show([]api.Shard{a}), show([]api.Shard{b}), same)
			}
			agree(a, b)
			if a.ID != 1 || b.ID != 2 {
				continue
			}
			for range 5 {
				c := forms[r.Intn(len(forms))]
				c.ID = 3
				agree(a, b, c)
			}
		}
	}
	if is[true] < 400 || is[false] < 1000 {
		t.Errorf("%v", is)
	}
}
