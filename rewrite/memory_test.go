package rewrite_test

import (
	"slices"
	"testing"

	"quilter/api"
	"quilter/rewrite"
)

// deep answers a copy of t that shares nothing with it.
func deep(t api.Tree) api.Tree {
	l := slices.Clone(t)
	for i := range l {
		l[i].Body = slices.Clone(l[i].Body)
	}
	return l
}

// spoil writes over all that b has, and over the room behind it.
func spoil(b []byte) {
	for i := range b[:cap(b)] {
		b[:cap(b)][i] = '!'
	}
}

// spoilTree does so with t and its bodies, one after the other; it tells whether that of one changed the rest.
func spoilTree(t api.Tree) bool {
	intact := true
	for len(t) > 0 {
		rest, first := deep(t[1:]), t[0]
		spoil(first.Body)
		t = t[1:]
		intact = intact && same(t, rest)
	}
	for i := range t[:cap(t)] {
		t[:cap(t)][i] = file("!", "!")
	}
	return intact
}

// shared answers files, whose bodies all lie in one array, with room behind the list that is somebody else's; and so rules.
func shared() (t api.Tree, l []api.Rule) {
	all := []byte("one\ntwo\nthree")
	whole := api.Tree{{Path: "a/x", Body: all[:3]}, {Path: "b", Body: all[:8]}, {Path: "c", Body: all[4:]}, {Path: "d", Body: nil}, {Path: "x", Body: all}}
	behind := rules(of(api.Replace, "**", "two", "2"), of(api.Insert, "**", "one", "1"), of(api.Rename, "**", "a", "e"), of(api.Strike, "b", "2"), of(api.Remove, "**"))
	return whole[:4], behind[:4]
}

// asTree answers files of what changes tell.
func asTree(l []api.Delta) api.Tree {
	var t api.Tree
	for _, d := range l {
		t = append(t, api.File{Path: d.Path, Body: d.Body})
	}
	return t
}

// TestMemory asks of each call that answers bytes: what was handed in stays, and what comes out is shared with nothing.
func TestMemory(t *testing.T) {
	body := func(r api.Rule, b []byte) api.Tree { return api.Tree{{Path: "body", Body: rewrite.Body(r, b)}} }
	for name, call := range map[string]func(api.Tree, []api.Rule) api.Tree{
		"Body, replaced":     func(t api.Tree, l []api.Rule) api.Tree { return body(l[0], t[1].Body) },
		"Body, inserted":     func(t api.Tree, l []api.Rule) api.Tree { return body(l[1], t[1].Body) },
		"Body, renamed":      func(t api.Tree, l []api.Rule) api.Tree { return body(l[2], t[1].Body) },
		"Body, struck":       func(t api.Tree, l []api.Rule) api.Tree { return body(of(api.Strike, "", "two"), t[1].Body) },
		"Body, as it was":    func(t api.Tree, l []api.Rule) api.Tree { return body(l[0], t[0].Body) },
		"Body, of no rule":   func(t api.Tree, l []api.Rule) api.Tree { return body(api.Rule{}, t[2].Body) },
		"File":               func(t api.Tree, l []api.Rule) api.Tree { f, _, _ := rewrite.File(l, t[0]); return api.Tree{f} },
		"File, as it was":    func(t api.Tree, l []api.Rule) api.Tree { f, _, _ := rewrite.File(nil, t[0]); return api.Tree{f} },
		"File, of nothing":   func(t api.Tree, l []api.Rule) api.Tree { f, _, _ := rewrite.File(l, t[3]); return api.Tree{f} },
		"File, removed":      func(t api.Tree, l []api.Rule) api.Tree { f, _, _ := rewrite.File(l[:5], t[0]); return api.Tree{f} },
		"Of, added":          func(t api.Tree, l []api.Rule) api.Tree { d, _ := rewrite.Of(l, t[0]); return asTree(d) },
		"Of, modified":       func(t api.Tree, l []api.Rule) api.Tree { d, _ := rewrite.Of(l, t[1]); return asTree(d) },
		"Of, deleted":        func(t api.Tree, l []api.Rule) api.Tree { d, _ := rewrite.Of(l[:5], t[1]); return asTree(d) },
		"Tree":               func(t api.Tree, l []api.Rule) api.Tree { u, _ := rewrite.Tree(l, t); return u },
		"Tree, as it was":    func(t api.Tree, l []api.Rule) api.Tree { u, _ := rewrite.Tree(nil, t); return u },
		"Tree, removed":      func(t api.Tree, l []api.Rule) api.Tree { u, _ := rewrite.Tree(l[:5], t); return u },
		"Tree with an error": func(t api.Tree, l []api.Rule) api.Tree { u, _ := rewrite.Tree(l[1:], t[:5:5][1:]); return u },
	} {
		x, l := shared()
		was, rulesWere := deep(x[:5]), slices.Clone(l[:5])
		first, second := call(x, l), call(x, l)
		answered := deep(first)
		if !same(answered, second) {
			t.Errorf("%s: once %s, then %s", name, show(answered), show(second))
		}
		if !spoilTree(first) {
			t.Errorf("%s: what comes out shares with itself", name)
		}
		if !same(second, answered) {
			t.Errorf("%s: two answers share", name)
		}
		if !same(x[:5], was) || !slices.Equal(l[:5], rulesWere) {
			t.Errorf("%s: what was handed in is %s; %s", name, show(x[:5]), showRules(l[:5]))
		}
	}
}

// TestNothingKept asks the same of rules and files that other ones stand between.
func TestNothingKept(t *testing.T) {
	x, l := shared()
	was := deep(x[:5])
	for range 3 {
		paths, e := rewrite.Changed(l, x)
		if want := []string{"a/x", "b", "c"}; e != api.OK || !slices.Equal(paths, want) || rewrite.Idem(l, x) {
			t.Errorf("Changed = %q, %d", paths, e)
		}
		clear(paths[:cap(paths)])
		u, e := rewrite.Tree(l, x)
		if want := `b="one\n1\n" c="2\nthree" d="" e/x="one\n1" `; e != api.OK || show(u) != want {
			t.Errorf("Tree = %s, %d", show(u), e)
		}
		spoilTree(u)
		rewrite.Tree(rules(of(api.Replace, "**", "one", "!"), of(api.Strike, "**", "two")), x)
		rewrite.Body(of(api.Insert, "", "one", "!"), x[1].Body)
		if !same(x[:5], was) {
			t.Errorf("what was handed in is %s", show(x[:5]))
		}
	}
}
