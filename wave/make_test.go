package wave_test

import (
	"slices"
	"strings"
	"testing"

	"quilter/api"
	"quilter/wave"
)

// files answers a tree of these files, each a text `path=body`, by rising paths.
func files(l ...string) api.Tree {
	var t api.Tree
	for _, s := range l {
		p, body, _ := strings.Cut(s, "=")
		t = append(t, api.File{Path: p, Body: []byte(body)})
	}
	slices.SortFunc(t, func(a, b api.File) int { return strings.Compare(a.Path, b.Path) })
	return t
}

// showTree answers the beginning of what stands in t.
func showTree(t api.Tree) string {
	var l []string
	for _, f := range t {
		l = append(l, f.Path+"="+string(f.Body))
	}
	return short(strings.ReplaceAll(strings.Join(l, "; "), "\n", ", "))
}

// old changes each file that has that token.
var old = api.Rule{Kind: api.Replace, Glob: "**", Old: "old", New: "new"}

// of answers a Shard of these owners and paths, each a text with blanks between.
func of(id int, owners string, ring string, paths string) api.Shard {
	return api.Shard{ID: id, Owners: strings.Fields(owners), Ring: ring, Paths: strings.Fields(paths)}
}

// makes asks that Make tells just want, which is Right.
func makes(t *testing.T, tree api.Tree, l []api.Rule, most int, want api.Plan) {
	t.Helper()
	got, e := wave.Make(tree, l, most)
	if e != api.OK || show(got) != show(want) || !wave.Same(got, want) || !wave.Right(got) {
		t.Errorf("Make(%s, %v, %d) = %s, %d; want %s", showTree(tree), l, most, short(show(got)), e, short(show(want)))
	}
}

// fails asks that Make tells that error, and nothing else.
func fails(t *testing.T, tree api.Tree, l []api.Rule, most int, want api.Errno) {
	t.Helper()
	if got, e := wave.Make(tree, l, most); e != want || !wave.Same(got, api.Plan{}) {
		t.Errorf("Make(%s, %v, %d) = %s, %d; want error %d", showTree(tree), l, most, show(got), e, want)
	}
}

func TestMake(t *testing.T) {
	r := []api.Rule{old}
	makes(t, nil, nil, 1, api.Plan{})
	makes(t, files("a=new", "BUILD=target x\nsrc a\ndep :y\ntarget y"), r, 100, api.Plan{})
	makes(t, files("a=old"), nil, 5, api.Plan{})
	makes(t, files("a=old"), r, 5, api.Plan{Shards: []api.Shard{of(1, "", "", "a")}, Waves: []int{0}, Needs: [][]int{nil}})
	// the chapter's own example
	makes(t, files("BUILD=target x\nsrc a\ndep :y\ntarget y\nsrc b", "a=old", "b=old"), r, 5, api.Plan{
		Shards: []api.Shard{of(1, "", ":x", "a"), of(2, "", ":y", "b")},
		Waves:  []int{1, 0},
		Needs:  [][]int{{2}, nil},
	})
	// over directories, of several owners, a file a shard, a ring, and files that nothing is built of
	makes(t, files(
		"OWNERS=ann", "lib/OWNERS=bob",
		"BUILD=target top\nsrc a\ndep lib:x", "lib/BUILD=target x\nsrc s\nsrc t\ndep :y\ntarget y\nsrc u\ndep :x\ndep base:z", "base/BUILD=target z\nsrc s",
		"a=old", "lib/s=old", "lib/t=old", "lib/u=new", "base/s=old", "base/v=old",
	), r, 1, api.Plan{
		Shards: []api.Shard{of(1, "ann", ":top", "a"), of(2, "ann", "base:z", "base/s"), of(3, "ann", "", "base/v"), of(4, "ann bob", "lib:x", "lib/s"), of(5, "ann bob", "lib:x", "lib/t")},
		Waves:  []int{2, 0, 0, 1, 1},
		Needs:  [][]int{{2, 4, 5}, nil, nil, {2}, {2}},
	})
	// as it is ahead of the rules, also where they change what tells it
	makes(t, files("BUILD=target x\nsrc a\ndep :y\ntarget y\nsrc b", "a=", "b="), []api.Rule{{Kind: api.Remove, Glob: "**"}}, 5, api.Plan{
		Shards: []api.Shard{of(1, "", "", "BUILD"), of(2, "", ":x", "a"), of(3, "", ":y", "b")},
		Waves:  []int{0, 1, 0},
		Needs:  [][]int{nil, {3}, nil},
	})
}

// TestMakeErrors asks for each error, and for what comes first of several.
func TestMakeErrors(t *testing.T) {
	r := []api.Rule{old}
	twice, dep, line := "BUILD=target x\ntarget x", "BUILD=target x\ndep :y", "BUILD=src a"
	for _, most := range []int{-1, 0, api.MaxCap + 1} {
		fails(t, files("a=old"), r, most, api.ErrArg)
		fails(t, files(line), r, most, api.ErrArg)
		fails(t, nil, nil, most, api.ErrArg)
	}
	makes(t, nil, nil, api.MaxCap, api.Plan{})
	fails(t, api.Tree{{Path: "b"}, {Path: "a"}}, r, 5, api.ErrArg)
	fails(t, files("a=old"), []api.Rule{{}}, 5, api.ErrArg)
	fails(t, files("a=old"), []api.Rule{{Kind: api.Insert, Glob: "a", Old: "old", New: strings.Repeat("x", api.MaxWord+1)}}, 5, api.ErrArg)
	fails(t, files("a="+strings.Repeat("old ", api.MaxBody/4)), []api.Rule{{Kind: api.Replace, Glob: "a", Old: "old", New: "older"}}, 5, api.ErrLong)
	fails(t, files("a="+strings.Repeat("old ", api.MaxBody/4), line), []api.Rule{{Kind: api.Replace, Glob: "a", Old: "old", New: "older"}}, 5, api.ErrLong)
	fails(t, files("a=", "b=", twice), []api.Rule{{Kind: api.Rename, Glob: "a", Old: "a", New: "b"}}, 5, api.ErrThere)
	fails(t, files("a=", "b=", twice), []api.Rule{{Kind: api.Rename, Glob: "a", Old: "a", New: "b/c"}}, 5, api.ErrPath)
	// of build, whether anything changes or not
	for _, body := range []string{"a=old", "a=new"} {
		fails(t, files(body, twice), r, 5, api.ErrTwice)
		fails(t, files(body, dep), r, 5, api.ErrDep)
		fails(t, files(body, line), r, 5, api.ErrLine)
		fails(t, files(body, "BUILD="+strings.Repeat("\n", api.MaxText+1)), r, 5, api.ErrLong)
		fails(t, files(body, twice, "OWNERS=a b"), r, 5, api.ErrTwice)
	}
	// of owners, of what changes
	fails(t, files("a=old", "OWNERS=a b"), r, 5, api.ErrLine)
	fails(t, files("a=old", "OWNERS="+strings.Repeat("\n", api.MaxText+1)), r, 5, api.ErrLong)
	makes(t, files("a=new", "OWNERS=a b"), r, 5, api.Plan{})
}
