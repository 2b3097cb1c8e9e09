package shard_test

import (
	"fmt"
	"math"
	"slices"
	"strings"
	"testing"

	"quilter/api"
	"quilter/shard"
)

// files answers a tree of these files, each a text `path=body`, by rising paths.
func files(l ...string) api.Tree {
	var t api.Tree
	for _, s := range l {
		p, body, _ := strings.Cut(s, "=")
		t = append(t, api.File{Path: p, Body: []byte(body)})
	}
	slices.SortFunc(t, func(a, b api.File) int { return strings.Compare(a.Path, b.Path) })
	return t
}

// changing answers files of these paths that old changes.
func changing(paths string) []string {
	var l []string
	for _, p := range strings.Fields(paths) {
		l = append(l, p+"=old")
	}
	return l
}

// showTree answers the beginning of what stands in t.
func showTree(t api.Tree) string {
	var l []string
	for _, f := range t {
		l = append(l, fmt.Sprintf("%q=%q", f.Path, short(string(f.Body))))
	}
	return short(strings.Join(l, " "))
}

// old changes each file that has that token.
var old = api.Rule{Kind: api.Replace, Glob: "**", Old: "old", New: "new"}

// splits asks that Split tells just want.
func splits(t *testing.T, tree api.Tree, l []api.Rule, most int, want ...api.Shard) {
	t.Helper()
	got, e := shard.Split(tree, l, most)
	if e != api.OK || show(got) != show(want) {
		t.Errorf("Split(%s, %v, %d) = %s, %d; want %s", showTree(tree), l, most, short(show(got)), e, short(show(want)))
	}
	if !shard.Right(got, most) || !shard.Same(got, want) {
		t.Errorf("Split(%s, %v, %d) = %s: Right is %t, Same %t", showTree(tree), l, most, short(show(got)), shard.Right(got, most), shard.Same(got, want))
	}
}

// fails asks that Split tells that error, and nothing else.
func fails(t *testing.T, tree api.Tree, l []api.Rule, most int, want api.Errno) {
	t.Helper()
	if got, e := shard.Split(tree, l, most); e != want || len(got) != 0 {
		t.Errorf("Split(%s, %v, %d) = %s, %d; want error %d", showTree(tree), l, most, short(show(got)), e, want)
	}
}

func TestSplit(t *testing.T) {
	r := []api.Rule{old}
	splits(t, nil, nil, 1)
	splits(t, api.Tree{}, r, 100)
	splits(t, files("a=old"), nil, 5)
	splits(t, files("a=new", "b="), r, 5)
	splits(t, files("a=old"), r, 5, of(1, "", "", "a"))
	splits(t, files("OWNERS=ann", "a=old"), r, 5, of(1, "ann", "", "a"))
	splits(t, files("BUILD=target x\nsrc a", "a=old"), r, 5, of(1, "", ":x", "a"))
	splits(t, files("OWNERS=bob\nann", "d/BUILD=target x\nsrc a", "d/a=old", "d/b=new"), r, 5, of(1, "ann bob", "d:x", "d/a"))
	// the chapter's own example
	splits(t, files("OWNERS=ann", "a=old", "b=old"), r, 1, of(1, "ann", "", "a"), of(2, "ann", "", "b"))
	// what does not change is of no shard, wherever it lies
	splits(t, files("a=new", "b=old", "c=", "d=old", "e=older"), r, 5, of(1, "", "", "b d"))
}

func TestSplitByOwners(t *testing.T) {
	r := []api.Rule{old}
	l := append(changing("a/x a/y b/x b/y c/x x y"), "OWNERS=ann", "a/OWNERS=bob", "b/OWNERS=set noparent", "c/OWNERS=bob")
	splits(t, files(l...), r, 5, of(1, "ann bob", "", "a/x a/y c/x"), of(2, "", "", "b/x b/y"), of(3, "ann", "", "x y"))
	// each owner once, rising, in whatever order, and however often they are told
	l = append(changing("a/x b/x"), "a/OWNERS=bob\nann\nbob", "b/OWNERS=ann", "OWNERS=bob\nann")
	splits(t, files(l...), r, 5, of(1, "ann bob", "", "a/x b/x"))
	// of some files of a directory alone
	l = append(changing("d/a.go d/b.c d/c.go d/e/f.go"), "OWNERS=ann", "d/OWNERS=per-file *.go bob")
	splits(t, files(l...), r, 5, of(1, "ann bob", "", "d/a.go d/c.go"), of(2, "ann", "", "d/b.c d/e/f.go"))
	// what owners are called makes no other heap
	l = append(changing("a/x b/x c/x d/x"), "a/OWNERS=a\nb-c", "b/OWNERS=a-b\nc", "c/OWNERS=ab\nc", "d/OWNERS=a\nb\nc")
	splits(t, files(l...), r, 5, of(1, "a b-c", "", "a/x"), of(2, "a-b c", "", "b/x"), of(3, "ab c", "", "c/x"), of(4, "a b c", "", "d/x"))
	// more owners than those of another one
	l = append(changing("a/x b/x c/x"), "OWNERS=ann", "b/OWNERS=bob", "c/OWNERS=bob\ncy")
	splits(t, files(l...), r, 5, of(1, "ann", "", "a/x"), of(2, "ann bob", "", "b/x"), of(3, "ann bob cy", "", "c/x"))
}

func TestSplitByRings(t *testing.T) {
	r := []api.Rule{old}
	l := changing("a b c d e f")
	splits(t, files(append(l, "BUILD=target x\nsrc a\nsrc c\ntarget y\nsrc b\nsrc c\nsrc d")...), r, 5, of(1, "", ":x", "a c"), of(2, "", ":y", "b d"), of(3, "", "", "e f"))
	splits(t, files(append(l, "BUILD=target x\nsrc a\ndep :y\ntarget y\nsrc b\nsrc c\ntarget z\nsrc d")...), r, 5, of(1, "", ":x", "a"), of(2, "", ":y", "b c"), of(3, "", ":z", "d"), of(4, "", "", "e f"))
	splits(t, files(append(l, "BUILD=target x\nsrc a\ndep :y\ntarget y\nsrc b\nsrc c\ndep :x\ntarget z\nsrc d\ndep :y")...), r, 5, of(1, "", ":x", "a b c"), of(2, "", ":z", "d"), of(3, "", "", "e f"))
	// rings of several directories: by names, b:x lies ahead of c:x, whatever is read first
	l = append(changing("a/s b/s c/s"), "a/BUILD=target x\nsrc s\ndep c:x\ntarget y", "b/BUILD=target x\nsrc s\ndep c:x", "c/BUILD=target x\nsrc s\ndep b:x")
	splits(t, files(l...), r, 5, of(1, "", "a:x", "a/s"), of(2, "", "b:x", "b/s c/s"))
	// targets, of which files further down are built
	l = append(changing("a/s a/t b/s"), "BUILD=target z\nsrc a/s\nsrc b/s", "a/BUILD=target x\nsrc s\nsrc t")
	splits(t, files(l...), r, 5, of(1, "", ":z", "a/s b/s"), of(2, "", "a:x", "a/t"))
	// as it is ahead of the rules, also where they change what tells it
	both := []api.Rule{old, {Kind: api.Remove, Glob: "**/BUILD"}, {Kind: api.Strike, Glob: "OWNERS", Old: "ann"}}
	splits(t, files("OWNERS=ann", "BUILD=target old\nsrc a", "a=old"), both, 5, of(1, "ann", "", "BUILD OWNERS"), of(2, "ann", ":old", "a"))
}

// TestSplitByBoth parts files of the same owners by their rings, and files of one ring by their owners.
func TestSplitByBoth(t *testing.T) {
	r := []api.Rule{old}
	l := append(changing("a/s a/t b/s b/t c"), "OWNERS=ann", "b/OWNERS=bob", "BUILD=target x\nsrc a/s\nsrc b/s\nsrc c\ntarget y\nsrc a/t")
	splits(t, files(l...), r, 5, of(1, "ann", ":x", "a/s c"), of(2, "ann", ":y", "a/t"), of(3, "ann bob", ":x", "b/s"), of(4, "ann bob", "", "b/t"))
	// heaps that take turns
	l = append(changing("a b c d e f g"), "OWNERS=per-file a x\nper-file d x\nper-file f x\nper-file g x", "BUILD=target x\nsrc b\nsrc e\nsrc f")
	splits(t, files(l...), r, 2, of(1, "x", "", "a d"), of(2, "x", "", "g"), of(3, "", ":x", "b e"), of(4, "", "", "c"), of(5, "x", ":x", "f"))
}

func TestSplitCuts(t *testing.T) {
	r := []api.Rule{old}
	for n := range 8 {
		paths := strings.Fields("a b c d e f g")[:n]
		tree := files(changing(strings.Join(paths, " "))...)
		for most := 1; most <= 9; most++ {
			var want []api.Shard
			for i := 0; i < n; i += most {
				want = append(want, of(len(want)+1, "", "", strings.Join(paths[i:min(i+most, n)], " ")))
			}
			splits(t, tree, r, most, want...)
		}
	}
	// each heap on its own, and numbers go on
	tree := files(append(changing("a/1 a/2 a/3 b/1 b/2 b/3 b/4 c"), "b/OWNERS=bob")...)
	splits(t, tree, r, 3, of(1, "", "", "a/1 a/2 a/3"), of(2, "", "", "c"), of(3, "bob", "", "b/1 b/2 b/3"), of(4, "bob", "", "b/4"))
	splits(t, tree, r, 100, of(1, "", "", "a/1 a/2 a/3 c"), of(2, "bob", "", "b/1 b/2 b/3 b/4"))
}

// TestSplitByEachKind asks for what each kind of rule changes.
func TestSplitByEachKind(t *testing.T) {
	tree := files("a/x=1\n2", "a/y=2", "b=1", "c=2 1")
	for _, x := range []struct {
		r    api.Rule
		want string
	}{
		{api.Rule{Kind: api.Replace, Glob: "a/**", Old: "1", New: "3"}, "a/x"},
		{api.Rule{Kind: api.Replace, Glob: "**", Old: "1", New: "3"}, "a/x b c"},
		{api.Rule{Kind: api.Replace, Glob: "**", Old: "1", New: "1"}, ""},
		{api.Rule{Kind: api.Insert, Glob: "**", Old: "2", New: "3"}, "a/x a/y"},
		{api.Rule{Kind: api.Strike, Glob: "**", Old: "1"}, "a/x b"},
		{api.Rule{Kind: api.Rename, Glob: "**", Old: "a", New: "d"}, "a/x a/y"},
		{api.Rule{Kind: api.Rename, Glob: "**", Old: "b", New: "b"}, ""},
		{api.Rule{Kind: api.Rename, Glob: "*", Old: "b", New: "a/b"}, "b"},
		{api.Rule{Kind: api.Remove, Glob: "*"}, "b c"},
		{api.Rule{Kind: api.Remove, Glob: "d"}, ""},
	} {
		var want []api.Shard
		if x.want != "" {
			want = append(want, of(1, "", "", x.want))
		}
		splits(t, tree, []api.Rule{x.r}, 9, want...)
	}
	// where a file comes to is asked neither for its owners nor for its ring
	tree = files("a=", "c/OWNERS=?", "c/BUILD=target x\nsrc b")
	splits(t, tree, []api.Rule{{Kind: api.Rename, Glob: "a", Old: "a", New: "c/b"}}, 9, of(1, "", "", "a"))
	// one rule undoes what the other one did
	splits(t, tree, []api.Rule{{Kind: api.Rename, Glob: "a", Old: "a", New: "b"}, {Kind: api.Rename, Glob: "b", Old: "b", New: "a"}}, 9)
}

func TestSplitErrors(t *testing.T) {
	r := []api.Rule{old}
	for _, most := range []int{math.MinInt, -100, -1, 0, 101, 1000, math.MaxInt} {
		fails(t, files("a=old"), r, most, api.ErrArg)
		fails(t, nil, nil, most, api.ErrArg)
	}
	for _, most := range []int{1, 2, 99, 100} {
		splits(t, files("a=old"), r, most, of(1, "", "", "a"))
		splits(t, nil, nil, most)
	}
	// those of rewrite
	fails(t, api.Tree{{Path: "b"}, {Path: "a"}}, r, 5, api.ErrArg)
	fails(t, files("a=", "a/b="), nil, 5, api.ErrArg)
	fails(t, files("a b="), nil, 5, api.ErrArg)
	fails(t, nil, []api.Rule{{}}, 5, api.ErrArg)
	fails(t, files("a=old"), []api.Rule{old, {Kind: api.Replace, Glob: "**", Old: "a-b"}}, 5, api.ErrArg)
	long := api.Rule{Kind: api.Replace, Glob: "**", Old: "old", New: strings.Repeat("x", 100)}
	fails(t, files("a="+strings.Repeat("old ", 16000)), []api.Rule{long}, 5, api.ErrLong)
	fails(t, files("a=", "b="), []api.Rule{{Kind: api.Rename, Glob: "b", Old: "b", New: "a"}}, 5, api.ErrThere)
	fails(t, files("a=", "b="), []api.Rule{{Kind: api.Rename, Glob: "b", Old: "b", New: "a/b"}}, 5, api.ErrPath)
	fails(t, files("a/"+strings.Repeat("b/", 40)+"c="), []api.Rule{{Kind: api.Rename, Glob: "**", Old: "a", New: strings.Repeat("d/", 20) + "d"}}, 5, api.ErrPath)
	// those of build
	fails(t, files("a=old", "d/BUILD=?"), r, 5, api.ErrLine)
	fails(t, files("a=old", "d/BUILD=target x\ntarget x"), r, 5, api.ErrTwice)
	fails(t, files("a=old", "d/BUILD=target x\ndep :y"), r, 5, api.ErrDep)
	fails(t, files("a=old", "d/BUILD=#"+strings.Repeat(" ", 1<<14)), r, 5, api.ErrLong)
	splits(t, files("a=old", "d/BUILD=#"+strings.Repeat(" ", 1<<14-1)), r, 5, of(1, "", "", "a"))
	// also where nothing changes
	fails(t, files("BUILD=?"), nil, 5, api.ErrLine)
	fails(t, files("a=", "BUILD=target x\ndep :y"), r, 5, api.ErrDep)
}

// TestSplitErrorsOfOwners asks for those of the paths that change, and of no others.
func TestSplitErrorsOfOwners(t *testing.T) {
	r := []api.Rule{old}
	long := strings.Repeat("\n", 1<<14+1)
	fails(t, files("OWNERS=?", "a=old"), r, 5, api.ErrLine)
	fails(t, files("OWNERS="+long, "a=old"), r, 5, api.ErrLong)
	fails(t, files("OWNERS=?", "d/a=old"), r, 5, api.ErrLine)
	splits(t, files("OWNERS="+long[:1<<14], "a=old"), r, 5, of(1, "", "", "a"))
	// of a path that does not change nothing is asked
	splits(t, files("OWNERS=?", "a=new"), r, 5)
	splits(t, files("a/OWNERS=?", "a/x=new", "b=old"), r, 5, of(1, "", "", "b"))
	splits(t, files("a/OWNERS=?", "a/x=new", "b=old"), nil, 5)
	splits(t, files("OWNERS=?", "a/OWNERS=set noparent", "a/x=old", "b=new"), r, 5, of(1, "", "", "a/x"))
	splits(t, files("a=old", "b/OWNERS=?", "c/OWNERS="+long), r, 5, of(1, "", "", "a"))
	// the first one in order
	fails(t, files("a/OWNERS=?", "a/x=old", "b/OWNERS="+long, "b/x=old"), r, 5, api.ErrLine)
	fails(t, files("a/OWNERS="+long, "a/x=old", "b/OWNERS=?", "b/x=old"), r, 5, api.ErrLong)
	fails(t, files("a/OWNERS="+long, "a/x=new", "b/OWNERS=?", "b/x=old"), r, 5, api.ErrLine)
	fails(t, files("a/x=old", "b/x=old", "c/OWNERS="+long, "c/x=old", "d/OWNERS=?", "d/x=old"), r, 1, api.ErrLong)
	// of one path the lowest directory's
	fails(t, files("OWNERS="+long, "a/OWNERS=?", "a/x=old"), r, 5, api.ErrLine)
	fails(t, files("OWNERS=?", "a/OWNERS="+long, "a/x=old"), r, 5, api.ErrLong)
}

// TestSplitFirstError takes one fault after the other away: each error is told ahead of all behind it.
func TestSplitFirstError(t *testing.T) {
	remove := func(p string) api.Rule { return api.Rule{Kind: api.Remove, Glob: p} }
	rename := func(p string, q string) api.Rule { return api.Rule{Kind: api.Rename, Glob: p, Old: p, New: q} }
	long := api.File{Path: "z", Body: make([]byte, api.MaxBody+1)}
	tree := files("BUILD=target x\ndep :y", "OWNERS="+strings.Repeat("\n", 1<<14+1), "a=old", "b=", "c="+strings.Repeat("old ", 16000), "d/BUILD=?")
	grow := api.Rule{Kind: api.Replace, Glob: "c", Old: "old", New: "longer"}
	fails(t, append(slices.Clone(tree), long), []api.Rule{{}, grow, rename("b", "a")}, 0, api.ErrArg)
	fails(t, append(slices.Clone(tree), long), []api.Rule{grow, rename("b", "a")}, 5, api.ErrArg)
	fails(t, tree, []api.Rule{{}, grow, rename("b", "a")}, 5, api.ErrArg)
	fails(t, tree, []api.Rule{grow, rename("b", "a")}, 5, api.ErrLong)
	fails(t, tree, []api.Rule{rename("b", "a")}, 5, api.ErrThere)
	fails(t, tree, []api.Rule{rename("b", "a/b")}, 5, api.ErrPath)
	fails(t, tree, []api.Rule{remove("a")}, 5, api.ErrLine) // of d/BUILD
	tree = tree[:5]
	fails(t, tree, []api.Rule{remove("a")}, 5, api.ErrDep)
	tree[0].Body = nil
	fails(t, tree, []api.Rule{remove("a")}, 5, api.ErrLong) // of OWNERS
	splits(t, tree, nil, 5)
	tree[1].Body = nil
	splits(t, tree, []api.Rule{remove("a")}, 5, of(1, "", "", "a"))
}
