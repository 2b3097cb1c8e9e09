package tree_test

import (
	"fmt"
	"slices"
	"strings"
	"testing"

	"quilter/api"
	"quilter/path"
	"quilter/tree"
)

func add(s string, body string) api.Delta {
	return api.Delta{Kind: api.Add, Path: s, Body: []byte(body)}
}

func modify(s string, body string) api.Delta {
	return api.Delta{Kind: api.Modify, Path: s, Body: []byte(body)}
}

func remove(s string) api.Delta {
	return api.Delta{Kind: api.Delete, Path: s}
}

// tell answers what stands in l, and nothing of how it is kept.
func tell(l []api.Delta) string {
	var all []string
	for _, d := range l {
		all = append(all, fmt.Sprintf("%d %q=%q", d.Kind, d.Path, d.Body))
	}
	return strings.Join(all, ", ")
}

func TestApply(t *testing.T) {
	a := files("a=1", "b/c=2", "b/d=3")
	for _, x := range []struct {
		l    []api.Delta
		want api.Tree
	}{
		{nil, a},
		{[]api.Delta{add("b/ca", "4")}, files("a=1", "b/c=2", "b/ca=4", "b/d=3")},
		{[]api.Delta{modify("a", "9")}, files("a=9", "b/c=2", "b/d=3")},
		{[]api.Delta{modify("a", "1")}, a},
		{[]api.Delta{modify("a", "")}, files("a=", "b/c=2", "b/d=3")},
		{[]api.Delta{remove("b/c")}, files("a=1", "b/d=3")},
		{[]api.Delta{{Kind: api.Delete, Path: "b/c", Body: []byte("9")}}, files("a=1", "b/d=3")},
		{[]api.Delta{remove("a"), remove("b/c"), remove("b/d")}, nil},
		// one behind the other: each finds what those ahead of it left
		{[]api.Delta{add("z", "1"), modify("z", "2"), remove("z"), add("z", "3"), modify("z", "4")}, files("a=1", "b/c=2", "b/d=3", "z=4")},
		{[]api.Delta{remove("a"), add("a/b", "4")}, files("a/b=4", "b/c=2", "b/d=3")},
		// what may not be on the way is asked behind all alone
		{[]api.Delta{add("a/b", "4"), remove("a")}, files("a/b=4", "b/c=2", "b/d=3")},
		{[]api.Delta{add("z", strings.Repeat("z", api.MaxBody+1)), modify("z", "4")}, files("a=1", "b/c=2", "b/d=3", "z=4")},
		{[]api.Delta{add("z", strings.Repeat("z", api.MaxBody+1)), remove("z")}, a},
	} {
		if got, e := tree.Apply(a, x.l...); e != api.OK || !same(got, x.want) {
			t.Errorf("Apply(%.100s) = %s, %d; want %s", tell(x.l), show(got), e, show(x.want))
		}
	}
	if got, e := tree.Apply(nil); e != api.OK || len(got) != 0 {
		t.Errorf("Apply of nothing = %s, %d", show(got), e)
	}
}

func TestApplyRefuses(t *testing.T) {
	a := files("a=1", "b/c=2", "b/d=3")
	tooLong := strings.Repeat("z", api.MaxBody+1)
	for _, x := range []struct {
		want api.Errno
		l    []api.Delta
	}{
		{api.ErrThere, []api.Delta{add("a", "2")}},
		{api.ErrThere, []api.Delta{add("b/c", "2")}},
		{api.ErrThere, []api.Delta{add("z", "1"), add("z", "2")}},
		{api.ErrNone, []api.Delta{modify("x", "1")}},
		{api.ErrNone, []api.Delta{modify("b", "1")}},
		{api.ErrNone, []api.Delta{remove("b")}},
		{api.ErrNone, []api.Delta{remove("b/c/d")}},
		{api.ErrNone, []api.Delta{remove("a"), remove("a")}},
		{api.ErrNone, []api.Delta{remove("a"), modify("a", "1")}},
		{api.ErrArg, []api.Delta{{}}},
		{api.ErrArg, []api.Delta{{Path: "a"}}},
		{api.ErrArg, []api.Delta{{Kind: 4, Path: "a"}}},
		{api.ErrArg, []api.Delta{{Kind: -1, Path: "x"}}},
		{api.ErrArg, []api.Delta{add("", "1")}},
		{api.ErrArg, []api.Delta{add("a/", "1")}},
		{api.ErrArg, []api.Delta{add("../x", "1")}},
		{api.ErrArg, []api.Delta{modify("b//c", "1")}},
		{api.ErrArg, []api.Delta{remove("*")}},
		{api.ErrArg, []api.Delta{remove("./a")}},
		{api.ErrPath, []api.Delta{add("a/b", "1")}},
		{api.ErrPath, []api.Delta{add("b", "1")}},
		{api.ErrPath, []api.Delta{add("b/c.x", "1"), add("b/c/d", "1")}},
		{api.ErrPath, []api.Delta{add("x/y/z", "1"), add("x", "1")}},
		{api.ErrLong, []api.Delta{add("z", tooLong)}},
		{api.ErrLong, []api.Delta{modify("a", tooLong)}},
		// which one of several: the first Delta's, and those of all behind them
		{api.ErrNone, []api.Delta{remove("x"), add("a", "1"), {}}},
		{api.ErrThere, []api.Delta{add("a", "1"), remove("x"), {}}},
		{api.ErrArg, []api.Delta{{}, remove("x"), add("a", "1")}},
		{api.ErrThere, []api.Delta{add("a/b", tooLong), add("a", "1")}},
		{api.ErrArg, []api.Delta{add("a/b", tooLong), {}}},
		{api.ErrLong, []api.Delta{add("a/b", tooLong)}},
		{api.ErrLong, []api.Delta{add("a/b", "1"), add("z", tooLong)}},
	} {
		if got, e := tree.Apply(a, x.l...); got != nil || e != x.want {
			t.Errorf("Apply(%.100s) = %.100s, %d; want %d", tell(x.l), show(got), e, x.want)
		}
	}
}

func TestApplyAtTheLimits(t *testing.T) {
	full := many(api.MaxTree)
	if got, e := tree.Apply(full[1:], add("a", "1")); e != api.OK || len(got) != api.MaxTree {
		t.Errorf("the last file that there may be: %d files, %d", len(got), e)
	}
	for i, x := range []struct {
		want api.Errno
		t    api.Tree
		l    []api.Delta
	}{
		{api.ErrLong, full, []api.Delta{add("a", "1")}},
		{api.ErrLong, full, []api.Delta{add("d00", "1")}}, // too many, and a file as a directory
		{api.ErrLong, many(api.MaxTree + 1), nil},
		{api.OK, full, []api.Delta{add("a", "1"), remove("a")}},
		{api.OK, full, []api.Delta{add("a", "1"), remove("d00/f0000")}},
		{api.OK, many(api.MaxTree + 1), []api.Delta{remove("d00/f0000")}},
		{api.OK, nil, []api.Delta{add("a", strings.Repeat("z", api.MaxBody))}},
		{api.ErrLong, nil, []api.Delta{add("a", strings.Repeat("z", api.MaxBody+1))}},
		{api.ErrLong, api.Tree{{Path: "a", Body: make([]byte, api.MaxBody+1)}}, nil},
		{api.OK, api.Tree{{Path: "a", Body: make([]byte, api.MaxBody+1)}}, []api.Delta{modify("a", "")}},
	} {
		if got, e := tree.Apply(x.t, x.l...); e != x.want || e == api.OK && !tree.Right(got) || e != api.OK && got != nil {
			t.Errorf("%d: %d files, %d; want %d", i, len(got), e, x.want)
		}
	}
}

// applyByTheWords says the chapter's words over again, by Drop and Put alone.
func applyByTheWords(t api.Tree, l []api.Delta) (api.Tree, api.Errno) {
	for _, d := range l {
		there := slices.ContainsFunc(t, func(f api.File) bool { return f.Path == d.Path })
		switch {
		case d.Kind < api.Add, d.Kind > api.Delete, !path.Right(d.Path):
			return nil, api.ErrArg
		case d.Kind == api.Add && there:
			return nil, api.ErrThere
		case d.Kind != api.Add && !there:
			return nil, api.ErrNone
		case d.Kind == api.Delete:
			t = tree.Drop(t, d.Path)
		default:
			t = tree.Put(t, api.File{Path: d.Path, Body: d.Body})
		}
	}
	if !rightByTheWords(t) {
		return nil, api.ErrPath
	}
	return t, api.OK
}

// TestApplyByTheWords holds Apply against the plain words, also of lists that are no trees.
func TestApplyByTheWords(t *testing.T) {
	var changes []api.Delta
	for _, s := range []string{"a", "a.b", "a/b", "b", "a/"} {
		for kind := range 5 {
			changes = append(changes, api.Delta{Kind: kind, Path: s, Body: []byte("new")})
		}
	}
	lists := [][]api.Delta{nil}
	for _, c := range changes {
		lists = append(lists, []api.Delta{c})
		for _, d := range changes {
			lists = append(lists, []api.Delta{c, d})
		}
	}
	for _, a := range subsets(files("a=1", "a.b=2", "a/b=3", "b=4", "a/=5"), 3) {
		for _, l := range lists {
			want, wantErr := applyByTheWords(a, l)
			if got, e := tree.Apply(a, l...); e != wantErr || !same(got, want) {
				t.Fatalf("Apply(%s; %s) = %s, %d; want %s, %d", show(a), tell(l), show(got), e, show(want), wantErr)
			}
		}
	}
}

func TestDiff(t *testing.T) {
	a := files("a=1", "b/c=2", "b/d=3", "e=")
	for _, x := range []struct {
		a, b api.Tree
		want []api.Delta
	}{
		{nil, nil, nil},
		{a, a, nil},
		{nil, files("a=1"), []api.Delta{add("a", "1")}},
		{files("a=1"), nil, []api.Delta{remove("a")}},
		{files("a=1"), files("a=2"), []api.Delta{modify("a", "2")}},
		{files("a=1"), files("a="), []api.Delta{modify("a", "")}},
		{files("a="), api.Tree{{Path: "a"}}, nil},
		{files("b=1"), files("a=1", "c=1"), []api.Delta{add("a", "1"), remove("b"), add("c", "1")}},
		{a, files("a=9", "b/c=2", "b/ca=4", "e="), []api.Delta{modify("a", "9"), add("b/ca", "4"), remove("b/d")}},
		{files("a=1"), files("a/b=1"), []api.Delta{remove("a"), add("a/b", "1")}},
		{files("a/b=1"), files("a=1"), []api.Delta{add("a", "1"), remove("a/b")}},
		{files("a/b=1"), files("a-b=1", "a0=1"), []api.Delta{add("a-b", "1"), remove("a/b"), add("a0", "1")}},
		// of what is no tree nothing is told
		{files("b=1", "a=1"), files("a=1"), nil},
		{files("a=1"), files("b=1", "a=1"), nil},
		{files("a=1", "a=2"), nil, nil},
		{nil, files("a", "a/b"), nil},
		{nil, files("a/"), nil},
		{many(api.MaxTree + 1), nil, nil},
		{nil, api.Tree{{Path: "a", Body: make([]byte, api.MaxBody+1)}}, nil},
	} {
		if got := tree.Diff(x.a, x.b); tell(got) != tell(x.want) {
			t.Errorf("Diff(%.100s; %.100s) = %.100s; want %s", show(x.a), show(x.b), tell(got), tell(x.want))
		}
	}
}

// TestDiffThereAndBack makes each small tree of each other one.
func TestDiffThereAndBack(t *testing.T) {
	all := slices.DeleteFunc(subsets(files("a=", "a=1", "a.b=1", "a/b=1", "a/b=2", "a/c=1", "b=1"), 4), func(l api.Tree) bool { return !tree.Right(l) })
	for _, a := range all {
		for _, b := range all {
			l := tree.Diff(a, b)
			if got, e := tree.Apply(a, l...); e != api.OK || !tree.Same(got, b) {
				t.Fatalf("Diff(%s; %s) = %s, which makes %s, %d", show(a), show(b), tell(l), show(got), e)
			}
			rising := slices.IsSortedFunc(l, func(x, y api.Delta) int { return strings.Compare(x.Path, y.Path) })
			once := len(slices.CompactFunc(slices.Clone(l), func(x, y api.Delta) bool { return x.Path == y.Path })) == len(l)
			if !rising || !once || (len(l) == 0) != tree.Same(a, b) {
				t.Fatalf("Diff(%s; %s) = %s", show(a), show(b), tell(l))
			}
		}
	}
	full, none := many(api.MaxTree), api.Tree(nil)
	if got, e := tree.Apply(none, tree.Diff(none, full)...); e != api.OK || !tree.Same(got, full) {
		t.Errorf("all files there may be: %d of them, %d", len(got), e)
	}
	if got, e := tree.Apply(full, tree.Diff(full, none)...); e != api.OK || len(got) != 0 {
		t.Errorf("back to none: %d of them, %d", len(got), e)
	}
}
