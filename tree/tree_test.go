package tree_test

import (
	"bytes"
	"fmt"
	"slices"
	"strings"
	"testing"

	"quilter/api"
	"quilter/path"
	"quilter/tree"
)

// file answers a file of that path and body.
func file(s string, body string) api.File {
	return api.File{Path: s, Body: []byte(body)}
}

// files answers a list of files, by texts `path=body`, in their order.
func files(l ...string) api.Tree {
	var t api.Tree
	for _, s := range l {
		p, body, _ := strings.Cut(s, "=")
		t = append(t, file(p, body))
	}
	return t
}

// many answers so many files, by rising paths.
func many(n int) api.Tree {
	var t api.Tree
	for i := range n {
		t = append(t, file(fmt.Sprintf("d%02d/f%04d", i/100, i), "x"))
	}
	return t
}

// show answers what stands in t, and nothing of how it is kept.
func show(t api.Tree) string {
	var l []string
	for _, f := range t {
		l = append(l, fmt.Sprintf("%q=%q", f.Path, f.Body))
	}
	return strings.Join(l, " ")
}

// deep answers a copy of t that shares nothing with it.
func deep(t api.Tree) api.Tree {
	var c api.Tree
	for _, f := range t {
		c = append(c, file(f.Path, string(f.Body)))
	}
	return c
}

// same tells whether two lists are, file by file.
func same(a api.Tree, b api.Tree) bool {
	return slices.EqualFunc(a, b, func(x, y api.File) bool { return x.Path == y.Path && bytes.Equal(x.Body, y.Body) })
}

// subsets answers all lists of at most so many of l, in any order, also with one of them several times.
func subsets(l api.Tree, most int) []api.Tree {
	all := []api.Tree{nil}
	for begin := 0; most > 0; most-- {
		end := len(all)
		for _, t := range all[begin:end] {
			for _, f := range l {
				all = append(all, append(slices.Clip(t), f))
			}
		}
		begin = end
	}
	return all
}

// odd answers lists of files that nobody should hand in, but somebody may.
func odd() []api.Tree {
	return []api.Tree{
		nil, {}, {{}}, {{}, {}}, files("b=1", "a=2"), files("a=1", "a=2"), files("a=", "a/b=", "a/b/c="), files("a/", "/a", "a//b", "..", "."),
		files("\x00", "\xff", "\u00e9", " "), many(api.MaxTree + 1), {{Path: strings.Repeat("a/", 1<<16)}}, {{Path: "a", Body: make([]byte, api.MaxBody+1)}},
		{{Path: strings.Repeat("/", 1<<16)}}, files("*", "**", "?"),
	}
}

// oddTexts answers texts that are no paths and no globs, and some that are.
func oddTexts() []string {
	return []string{"", "/", "a", "a/", "/a", "a//b", ".", "..", "*", "**", "***", "\x00", "\xff", " ", strings.Repeat("a", 1<<16), strings.Repeat("a/", 1<<16), "d00/f0000"}
}

func TestRight(t *testing.T) {
	n30 := strings.Repeat("n", api.MaxName)
	for _, l := range []api.Tree{
		nil, {}, files("a"), files("a", "b"), files("A", "B", "a"), files("a", "a.b", "a0", "aa"), files("a-b", "a.b", "a/b", "a0"), files("a", "ab/c"),
		files("a/b", "a/b.c", "a/b0/c"), files("a/a/a", "a/a/b", "a/b/a"), files("b/a", "b/b"), files("a.b", "a.b.c/d"), files("x/a", "y/x/a"),
		files(n30), files(strings.Repeat("a/", 49) + "bc"), {{Path: "a", Body: make([]byte, api.MaxBody)}}, many(api.MaxTree),
	} {
		if !tree.Right(l) {
			t.Errorf("Right(%.100s) = false", show(l))
		}
	}
	for _, l := range []api.Tree{
		{{}}, files(""), files("/a"), files("a/"), files("a//b"), files("."), files("../a"), files("a b"), files("*"), files("\x00"), files("a", "b", "c/"), // no path
		files(n30 + "n"), files(strings.Repeat("a/", 50) + "b"), // too long a name, a path
		files("a", "a"), files("a=1", "a=2"), files("b", "a"), files("a", "c", "b"), files("a", "b", "a"), files("a", "B"), files("a/b", "a.b"), files("a0", "a/b"), // not rising
		files("a", "a/b"), files("a", "a/b/c"), files("a/b", "a/b/c"), files("b", "b.x", "b/c"), files("b", "b-", "b.", "b/c/d"), files("a", "a.a", "a.b", "a.c", "a/b"), files("a/b", "a/b-c/d", "a/b/c"), // a file as a directory
		{{Path: "a", Body: make([]byte, api.MaxBody+1)}}, {{Path: "a"}, {Path: "b", Body: make([]byte, api.MaxBody+1)}, {Path: "c"}}, many(api.MaxTree + 1),
	} {
		if tree.Right(l) {
			t.Errorf("Right(%.100s) = true", show(l))
		}
	}
}

// rightByTheWords says the chapter's words over again, each pair asked.
func rightByTheWords(l api.Tree) bool {
	for i, f := range l {
		if len(l) > api.MaxTree || !path.Right(f.Path) || len(f.Body) > api.MaxBody {
			return false
		}
		for j, g := range l {
			if i < j && f.Path >= g.Path || path.Under(f.Path, g.Path) {
				return false
			}
		}
	}
	return true
}

func TestRightByTheWords(t *testing.T) {
	for _, l := range subsets(files("a", "a-b", "a.b", "a/b", "a/b.c", "a/b/c", "a0", "/a", ""), 4) {
		if got := tree.Right(l); got != rightByTheWords(l) {
			t.Fatalf("Right(%s) = %v", show(l), got)
		}
	}
}

func TestGet(t *testing.T) {
	l := files("b=1", "a=2", "b=3", "c=", "=4", "a/=5")
	for s, want := range map[string]string{"b": "1", "a": "2", "c": "", "": "4", "a/": "5"} {
		if b, ok := tree.Get(l, s); string(b) != want || !ok {
			t.Errorf("Get(%q) = %q, %v; want %q", s, b, ok, want)
		}
	}
	for _, s := range []string{"d", "B", "aa", "/a", "a/b", "*", "**", "?", "./a", "\x00"} {
		if b, ok := tree.Get(l, s); len(b) != 0 || ok {
			t.Errorf("Get(%q) = %q, %v; want nothing", s, b, ok)
		}
	}
	if b, ok := tree.Get(nil, ""); len(b) != 0 || ok {
		t.Errorf("Get of no file = %q, %v", b, ok)
	}
}

func TestDrop(t *testing.T) {
	for _, x := range []struct {
		s    string
		l    api.Tree
		want api.Tree
	}{
		{"a", nil, nil},
		{"a", files("a=1"), nil},
		{"a", files("b=1"), files("b=1")},
		{"b", files("a=1", "b=2", "c=3"), files("a=1", "c=3")},
		{"a", files("a=1", "a/b=2", "aa=3", "b/a=4"), files("a/b=2", "aa=3", "b/a=4")},
		{"a", files("a=1", "c=2", "a=3", "b=4", "a=5"), files("c=2", "b=4")},
		{"", files("=1", "b=2", "=3"), files("b=2")},
		{"*", files("a=1", "*=2"), files("a=1")},
	} {
		if got := tree.Drop(x.l, x.s); !same(got, x.want) {
			t.Errorf("Drop(%s, %q) = %s; want %s", show(x.l), x.s, show(got), show(x.want))
		}
	}
}

func TestPut(t *testing.T) {
	for _, x := range []struct {
		f    api.File
		l    api.Tree
		want api.Tree
	}{
		{file("a", "1"), nil, files("a=1")},
		{file("b", "9"), files("a=1", "c=3"), files("a=1", "b=9", "c=3")},
		{file("a", "9"), files("b=1"), files("a=9", "b=1")},
		{file("c", "9"), files("a=1", "b=2"), files("a=1", "b=2", "c=9")},
		{file("b", "9"), files("a=1", "b=2", "c=3"), files("a=1", "b=9", "c=3")},
		{file("a/b", "9"), files("a-b=1", "a.b=2", "a0=3"), files("a-b=1", "a.b=2", "a/b=9", "a0=3")},
		{file("B", "9"), files("A=1", "a=2"), files("A=1", "B=9", "a=2")},
		{file("b", ""), files("b=2"), files("b=")},
		// of files that do not rise: ahead of the first one that is above, without all that were
		{file("b", "9"), files("c=1", "a=2"), files("b=9", "c=1", "a=2")},
		{file("b", "9"), files("b=1", "c=2", "a=3", "b=4", "d=5"), files("b=9", "c=2", "a=3", "d=5")},
		{file("c", "9"), files("b=1", "c=2", "a=3"), files("b=1", "a=3", "c=9")},
		{file("a", "9"), files("a=1", "a=2"), files("a=9")},
		{file("b", "9"), files("a=1", "b=2", "a=3", "d=4"), files("a=1", "a=3", "b=9", "d=4")},
		// of what is no path
		{file("", "9"), files("a=1"), files("=9", "a=1")},
		{file("a/", "9"), files("a=1", "b=2"), files("a=1", "a/=9", "b=2")},
	} {
		if got := tree.Put(x.l, x.f); !same(got, x.want) {
			t.Errorf("Put(%s, %q) = %s; want %s", show(x.l), x.f.Path, show(got), show(x.want))
		}
	}
	l := tree.Put(many(api.MaxTree), api.File{Path: "a", Body: make([]byte, api.MaxBody+1)})
	if len(l) != api.MaxTree+1 || l[0].Path != "a" || len(l[0].Body) != api.MaxBody+1 {
		t.Error("Put beyond the limits")
	}
}

func TestSelect(t *testing.T) {
	l := files("a", "a.go", "b/c", "b/d.go", "b/e/f.go")
	for g, want := range map[string][]string{
		"**":      {"a", "a.go", "b/c", "b/d.go", "b/e/f.go"},
		"*":       {"a", "a.go"},
		"**/*.go": {"a.go", "b/d.go", "b/e/f.go"},
		"b/**":    {"b/c", "b/d.go", "b/e/f.go"},
		"b/*":     {"b/c", "b/d.go"},
		"a":       {"a"},
		"b":       nil,
		"":        nil,
		"a/":      nil,
		"***":     nil,
		"../*":    nil,
	} {
		if got := tree.Select(l, g); !slices.Equal(got, want) {
			t.Errorf("Select(%q) = %q; want %q", g, got, want)
		}
	}
	// in the order in which they stand there, each as often; what is no path matches nothing
	if got := tree.Select(files("c", "a", "c", "b/", "", "b"), "**"); !slices.Equal(got, []string{"c", "a", "c", "b"}) {
		t.Errorf("Select of files that do not rise = %q", got)
	}
	if got := tree.Select(nil, "**"); len(got) != 0 {
		t.Errorf("Select of no file = %q", got)
	}
}

func TestSame(t *testing.T) {
	all := subsets(append(files("a=", "a=1", "b=", "b=1"), api.File{Path: "a"}), 3)
	for _, a := range all {
		for _, b := range all {
			if got := tree.Same(a, b); got != same(a, b) {
				t.Fatalf("Same(%s, %s) = %v", show(a), show(b), got)
			}
		}
	}
	if !tree.Same(nil, api.Tree{}) || !tree.Same(many(2000), many(2000)) || tree.Same(many(2000), many(1999)) || tree.Same(many(1999), many(2000)) {
		t.Error("Same of many, or none")
	}
}

// TestAnyInput hands everything in everywhere: each call ends, and none panics.
func TestAnyInput(t *testing.T) {
	for _, a := range odd() {
		if tree.Right(a) != rightByTheWords(a) {
			t.Errorf("Right(%.100s) = %v", show(a), tree.Right(a))
		}
		for _, s := range oddTexts() {
			f := file(s, "new")
			if l := tree.Put(a, f); len(l) != len(tree.Drop(a, s))+1 {
				t.Errorf("Put(%.100s, %.50q) has %d files", show(a), s, len(l))
			} else if b, ok := tree.Get(l, s); string(b) != "new" || !ok {
				t.Errorf("Get(%.50q) behind Put = %q, %v", s, b, ok)
			}
			if b, ok := tree.Get(tree.Drop(a, s), s); len(b) != 0 || ok {
				t.Errorf("Get(%.50q) behind Drop = %q, %v", s, b, ok)
			}
			tree.Select(a, s)
			for kind := -1; kind < 5; kind++ {
				d := api.Delta{Kind: kind, Path: s, Body: []byte("new")}
				if l, e := tree.Apply(a, d, d); e == api.OK && !tree.Right(l) || e != api.OK && l != nil {
					t.Errorf("Apply(%.100s, %d %.50q) = %d", show(a), kind, s, e)
				}
			}
		}
		for _, b := range odd() {
			tree.Diff(a, b)
			if tree.Same(a, b) != same(a, b) {
				t.Errorf("Same(%.100s, %.100s) = %v", show(a), show(b), tree.Same(a, b))
			}
		}
	}
}
