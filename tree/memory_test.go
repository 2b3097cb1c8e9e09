package tree_test

import (
	"slices"
	"testing"

	"quilter/api"
	"quilter/tree"
)

// spoil writes over all that b has, and over the room behind it.
func spoil(b []byte) {
	for i := range b[:cap(b)] {
		b[:cap(b)][i] = '!'
	}
}

// spoilTree does so with t and its bodies, one after the other; it tells whether that of one changed the rest.
func spoilTree(t api.Tree) bool {
	intact := true
	for len(t) > 0 {
		rest, first := deep(t[1:]), t[0]
		spoil(first.Body)
		t = t[1:]
		intact = intact && same(t, rest)
	}
	for i := range t[:cap(t)] {
		t[:cap(t)][i] = file("!", "!")
	}
	return intact
}

// shared answers files, whose bodies all lie in one array, with room behind the list that is somebody else's.
func shared() (t api.Tree, behind api.Tree) {
	all := []byte("onetwothree")
	whole := api.Tree{{Path: "a", Body: all[:3]}, {Path: "b", Body: all[:6]}, {Path: "c", Body: all[3:]}, {Path: "x", Body: all}}
	return whole[:3], whole[3:]
}

// TestMemory asks of each call that answers files: what was handed in stays, and what comes out is shared with nothing.
func TestMemory(t *testing.T) {
	body := []byte("new")
	for name, call := range map[string]func(api.Tree) api.Tree{
		"Put of another one": func(l api.Tree) api.Tree { return tree.Put(l, api.File{Path: "bb", Body: body}) },
		"Put of the last":    func(l api.Tree) api.Tree { return tree.Put(l, api.File{Path: "z", Body: body}) },
		"Put in place":       func(l api.Tree) api.Tree { return tree.Put(l, api.File{Path: "b", Body: body}) },
		"Put of its own":     func(l api.Tree) api.Tree { return tree.Put(l, l[0]) },
		"Drop":               func(l api.Tree) api.Tree { return tree.Drop(l, "a") },
		"Drop of nothing":    func(l api.Tree) api.Tree { return tree.Drop(l, "d") },
		"Apply of nothing":   func(l api.Tree) api.Tree { r, _ := tree.Apply(l); return r },
		"Apply": func(l api.Tree) api.Tree {
			r, _ := tree.Apply(l, remove("a"), api.Delta{Kind: api.Modify, Path: "b", Body: body}, api.Delta{Kind: api.Add, Path: "d", Body: body})
			return r
		},
		"Apply with an error": func(l api.Tree) api.Tree { r, _ := tree.Apply(l, remove("a"), modify("b", ""), remove("a")); return r },
		"Diff": func(l api.Tree) api.Tree {
			var r api.Tree
			for _, d := range tree.Diff(files("b=1"), l) {
				r = append(r, api.File{Path: d.Path, Body: d.Body})
			}
			return r
		},
		"Get": func(l api.Tree) api.Tree { b, _ := tree.Get(l, "b"); return api.Tree{{Path: "b", Body: b}} },
	} {
		l, behind := shared()
		was, wasBehind := deep(l), deep(behind)
		first, second := call(l), call(l)
		answered := deep(first)
		if !same(answered, second) {
			t.Errorf("%s: once %s, then %s", name, show(answered), show(second))
		}
		if !spoilTree(first) {
			t.Errorf("%s: what comes out shares with itself", name)
		}
		if !same(second, answered) {
			t.Errorf("%s: two answers share", name)
		}
		if !same(l, was) || !same(behind, wasBehind) || string(body) != "new" {
			t.Errorf("%s: what was handed in is %s, %s, %q", name, show(l), show(behind), body)
		}
	}
}

// TestNotChanged asks it of the rest.
func TestNotChanged(t *testing.T) {
	a, _ := shared()
	b := tree.Put(a, file("a", "9"))
	wasA, wasB := deep(a), deep(b)
	changes := tree.Diff(a, b)
	wasChanges := tell(changes)
	if !tree.Right(a) || tree.Same(a, b) || len(changes) != 1 {
		t.Errorf("%s; %s; %s", show(a), show(b), wasChanges)
	}
	paths := tree.Select(a, "**")
	clear(paths[:cap(paths)])
	if again := tree.Select(a, "**"); !slices.Equal(again, []string{"a", "b", "c"}) {
		t.Errorf("Select = %q", again)
	}
	if _, e := tree.Apply(a, changes...); e != api.OK {
		t.Errorf("Apply: %d", e)
	}
	if !same(a, wasA) || !same(b, wasB) || tell(changes) != wasChanges {
		t.Errorf("what was handed in is %s; %s; %s", show(a), show(b), tell(changes))
	}
}
