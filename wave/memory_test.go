package wave_test

import (
	"fmt"
	"slices"
	"testing"

	"quilter/api"
	"quilter/wave"
)

// spoil writes over all that l has, and over the room behind it.
func spoil[T any](l []T, with T) {
	for i := range l[:cap(l)] {
		l[:cap(l)][i] = with
	}
}

// spoilPlan does so with p's lists, one after the other; it tells whether that of one changed the rest.
func spoilPlan(p api.Plan) bool {
	intact := true
	watch := func(change func()) {
		// what is at hand is told as nothing, so that only the rest is held
		was := show(p)
		change()
		intact = intact && show(p) == was
	}
	for i := range p.Shards {
		owners, paths := p.Shards[i].Owners, p.Shards[i].Paths
		p.Shards[i].Owners, p.Shards[i].Paths = nil, nil
		watch(func() { spoil(owners, "!") })
		was := slices.Clone(paths)
		spoil(owners, "?")
		intact = intact && slices.Equal(paths, was)
		watch(func() { spoil(paths, "!") })
	}
	for i := range p.Needs {
		needs := p.Needs[i]
		p.Needs[i] = nil
		watch(func() { spoil(needs, -7) })
	}
	waves, needs, l := p.Waves, p.Needs, p.Shards
	p.Waves = nil
	watch(func() { spoil(waves, -7) })
	p.Needs = nil
	watch(func() { spoil(needs, []int{-7}) })
	p.Shards = nil
	watch(func() { spoil(l, at(-7, "!")) })
	return intact
}

// TestOfMemory asks that what comes out is nobody else's, and that what was handed in stays.
func TestOfMemory(t *testing.T) {
	texts := []string{"a", "b", ":y", ":z", "behind"}
	targets := []api.Target{{Name: ":x", Srcs: texts[:2], Deps: texts[2:4]}, {Name: ":y", Deps: texts[3:4]}, {Name: ":z"}, {Name: ":z", Deps: texts[2:3]}}
	whole := []api.Shard{{ID: 1, Owners: texts[:1], Ring: ":x", Paths: texts[:2]}, {ID: 2, Owners: texts[:1], Ring: ":y", Paths: texts[1:2]}, {ID: 3, Ring: ":z", Paths: texts[2:3]}, {ID: 4, Ring: ":x", Paths: texts[:1]}, {ID: 5, Ring: ":y"}}
	l := whole[:4]
	was := fmt.Sprintf("%q %v %v", texts, targets, whole)
	want := `1 ["a"] ":x" ["a" "b"]; 2 ["a"] ":y" ["b"]; 3 [] ":z" [":y"]; 4 [] ":x" ["a"] | [2 1 0 2] | [[2 3] [3] [] [2 3]]`
	for range 2 {
		first, second := wave.Of(targets[:3], l), wave.Of(targets[:3], l)
		if show(first) != want {
			t.Fatalf("Of = %s; want %s", show(first), want)
		}
		if !spoilPlan(first) {
			t.Error("what comes out shares with itself")
		}
		if show(second) != want {
			t.Errorf("two answers share: %s; want %s", show(second), want)
		}
		if now := fmt.Sprintf("%q %v %v", texts, targets, whole); now != was {
			t.Errorf("what was handed in is %s; want %s", now, was)
		}
	}
	// what was answered stays, whatever becomes of what was handed in
	got := wave.Of(targets[:3], l)
	spoil(texts, "!")
	clear(targets)
	clear(whole)
	if show(got) != want {
		t.Errorf("what was answered is %s", show(got))
	}
}

// TestMakeMemory asks it of Make.
func TestMakeMemory(t *testing.T) {
	tree := files("BUILD=target x\nsrc a\ndep :y\ntarget y\nsrc b\nsrc c", "OWNERS=ann\nbob", "a=old", "b=old", "c=old")
	rules := []api.Rule{old, {Kind: api.Remove, Glob: "**"}}
	was := showTree(tree)
	want := `1 ["ann" "bob"] ":x" ["a"]; 2 ["ann" "bob"] ":y" ["b"]; 3 ["ann" "bob"] ":y" ["c"] | [1 0 0] | [[2 3] [] []]`
	first, _ := wave.Make(tree, rules[:1], 1)
	second, e := wave.Make(tree, rules[:1], 1)
	if e != api.OK || show(first) != want || !spoilPlan(first) || show(second) != want {
		t.Errorf("Make = %s, %d; want %s", show(second), e, want)
	}
	if showTree(tree) != was || rules[0] != old || rules[1].Glob != "**" {
		t.Errorf("what was handed in is %s, %v", showTree(tree), rules)
	}
	for i := range tree {
		spoil(tree[i].Body, '!')
	}
	clear(tree)
	clear(rules)
	if show(second) != want {
		t.Errorf("what was answered is %s", show(second))
	}
}

// TestPlanNotChanged asks it of the calls that a Plan is handed to.
func TestPlanNotChanged(t *testing.T) {
	whole := plan("2 0 1 1 9", "2 3", "", "2", "", "1 2")
	spoil(whole.Shards[0].Paths, "p")
	p := api.Plan{Shards: whole.Shards[:4], Waves: whole.Waves[:4], Needs: whole.Needs[:4]}
	was := show(whole)
	for range 2 {
		for _, got := range []struct {
			l    []int
			want string
		}{{wave.Order(p), "[2 3 4 1]"}, {wave.Behind(p, 2), "[1 3]"}, {wave.Behind(p, 1), "[]"}} {
			if fmt.Sprint(got.l) != got.want {
				t.Errorf("%v; want %s", got.l, got.want)
			}
			spoil(got.l, -7)
		}
		if !wave.Right(p) || !wave.Right(whole) || !wave.Same(p, p) || wave.Same(p, whole) {
			t.Error("Right, or Same, of what is handed in")
		}
		if show(whole) != was {
			t.Errorf("what was handed in is %s; want %s", show(whole), was)
		}
	}
}
