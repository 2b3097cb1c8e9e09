package build_test

import (
	"fmt"
	"slices"
	"strings"
	"testing"

	"quilter/api"
	"quilter/build"
)

// files answers a list of files, by texts `path=body`, in their order.
func files(l ...string) api.Tree {
	var t api.Tree
	for _, s := range l {
		p, body, _ := strings.Cut(s, "=")
		t = append(t, api.File{Path: p, Body: []byte(body)})
	}
	return t
}

// showTree answers the beginning of what stands in t.
func showTree(t api.Tree) string {
	var l []string
	for _, f := range t {
		l = append(l, fmt.Sprintf("%q=%q", short(f.Path), short(string(f.Body))))
	}
	return strings.Join(l, " ")
}

// tells asks that All tells just want.
func tells(t *testing.T, tree api.Tree, want ...api.Target) {
	t.Helper()
	if l, e := build.All(tree); e != api.OK || show(l) != show(want) {
		t.Errorf("All(%s) = %s, %d; want %s", short(showTree(tree)), short(show(l)), e, short(show(want)))
	}
}

// fails asks that All tells that error, and nothing else.
func fails(t *testing.T, tree api.Tree, want api.Errno) {
	t.Helper()
	if l, e := build.All(tree); e != want || len(l) != 0 {
		t.Errorf("All(%s) = %s, %d; want error %d", short(showTree(tree)), short(show(l)), e, want)
	}
}

func TestAll(t *testing.T) {
	tells(t, nil)
	tells(t, api.Tree{})
	tells(t, files("BUILD="))
	tells(t, files("BUILD=# nothing", "a/BUILD=\n\n"))
	tells(t, files("BUILD=target x"), on(":x"))
	tells(t, files("d/BUILD=target x\nsrc a\ndep :x"), on("d:x", "d/a", "d:x"))
	tells(t, files("BUILD=target top\ndep b:x\nsrc a\nsrc b/c", "b/BUILD=target x\nsrc c\n", "b/c="), on(":top", "a", "b/c", "b:x"), on("b:x", "b/c"))
	// a file whose name is another one tells nothing, nor is it wrong
	tells(t, files("A=target a", "BUILD.go=X", "BUILDS=X", "Build=X", "OWNERS=X", "XBUILD=X", "a/BUILD/b=X", "a/build=X", "b.BUILD=X", "c/OWNERS=X"))
	// what it tells need not be there, nor in one place
	tells(t, files("a/BUILD=target x\nsrc b/c\nsrc BUILD"), on("a:x", "a/b/c", "a/BUILD"))
	tells(t, files("BUILD=target x\nsrc a/b", "a/BUILD=target x\nsrc b", "a/b="), on(":x", "a/b"), on("a:x", "a/b"))
	// what stands on one another, in a ring, or on itself
	tells(t, files("a/BUILD=target x\ndep b:y", "b/BUILD=target y\ndep a:x\ndep :y"), on("a:x", "b:y"), on("b:y", "a:x", "b:y"))
}

func TestAllRises(t *testing.T) {
	// by names as texts: the colon (3a) lies behind the slash (2f), `-` and `.` ahead of it, letters behind it
	tree := files("A/BUILD=target b\ntarget a", "BUILD=target z\ntarget _\ntarget 0", "a-b/BUILD=target x", "a/BUILD=target x\ntarget b\ntarget aa\ntarget a", "a/b/BUILD=target x", "a0/BUILD=target x", "aa/BUILD=target x")
	want := []string{":0", ":_", ":z", "A:a", "A:b", "a-b:x", "a/b:x", "a0:x", "a:a", "a:aa", "a:b", "a:x", "aa:x"}
	l, e := build.All(tree)
	var got []string
	for i, x := range l {
		got = append(got, x.Name)
		if build.Place(l, x.Name) != i {
			t.Errorf("Place of %q = %d; want %d", x.Name, build.Place(l, x.Name), i)
		}
	}
	if e != api.OK || !slices.Equal(got, want) {
		t.Errorf("All = %q, %d; want %q", got, e, want)
	}
	// in whatever order the files are
	back := slices.Clone(tree)
	slices.Reverse(back)
	tells(t, back, l...)
	// files, and what they stand on, stay in their order
	tells(t, files("BUILD=target b\nsrc c\nsrc a\ndep :b\ndep :a\nsrc b\ntarget a\nsrc b\nsrc a"), on(":a", "b", "a"), on(":b", "c", "a", "b", ":b", ":a"))
}

func TestAllErrors(t *testing.T) {
	long := strings.Repeat("\n", 1<<14+1)
	// the first one that Parse tells, in the files' order
	fails(t, files("x/BUILD=?"), api.ErrLine)
	fails(t, files("BUILD=target x\ntarget x"), api.ErrTwice)
	fails(t, files("BUILD="+long), api.ErrLong)
	fails(t, files("a b/BUILD="), api.ErrPath)
	fails(t, files("BUILD=target x", "a/BUILD=target x\ntarget x", "b/BUILD=?"), api.ErrTwice)
	fails(t, files("BUILD=target x", "a/BUILD=?", "b/BUILD=target x\ntarget x"), api.ErrLine)
	fails(t, files("a/BUILD="+long, "b/BUILD=?", "c d/BUILD="), api.ErrLong)
	fails(t, files("c d/BUILD="+long, "b/BUILD=?"), api.ErrPath)
	fails(t, files("d/BUILD=?", "a/BUILD=target x\ntarget x"), api.ErrLine)
	// such as has an empty directory has no wrong one
	tells(t, files("/BUILD=target x"), on(":x"))
	for _, p := range []string{"//BUILD", "a//BUILD", "./BUILD", "../BUILD", "a/../BUILD", "/a/BUILD", "*/BUILD", p100 + "p/BUILD"} {
		fails(t, files(p+"=target x"), api.ErrPath)
	}
	fails(t, api.Tree{{Path: "a b/BUILD"}}, api.ErrPath) // of no body, too
	tells(t, api.Tree{{Path: "a/BUILD"}})
	tells(t, files(p100+"/BUILD=target x"), on(p100+":x"))
	// names of several files, which lie in one directory
	fails(t, files("a/BUILD=target x", "a/BUILD=target x"), api.ErrTwice)
	fails(t, files("/BUILD=target x", "BUILD=target y\ntarget x"), api.ErrTwice)
	fails(t, files("a/BUILD=target x", "b/BUILD=target x", "a/BUILD=target y\ntarget x"), api.ErrTwice)
	tells(t, files("a/BUILD=target x", "b/BUILD=target x", "a/BUILD=target y\ndep :x"), on("a:x"), on("a:y", "a:x"), on("b:x"))
	// what is stood on and is not there
	fails(t, files("BUILD=target x\ndep :y"), api.ErrDep)
	fails(t, files("BUILD=target x\ndep a:x", "b/BUILD=target x"), api.ErrDep)
	fails(t, files("BUILD=target y", "a/BUILD=target x\ndep :y"), api.ErrDep)
	fails(t, files("BUILD=target x\ndep :x\ndep :y\ntarget z"), api.ErrDep)
	fails(t, files("BUILD=target x\ntarget y\ndep a:x\ntarget z", "a/b/BUILD=target x"), api.ErrDep)
	fails(t, files("a/BUILD=target x\nsrc y\ndep a/y:x"), api.ErrDep)
	// of several errors that of Parse comes first, then that of names
	fails(t, files("a/BUILD=target x\ndep :y", "a/BUILD=target x", "b/BUILD=?"), api.ErrLine)
	fails(t, files("a/BUILD=target x", "a/BUILD=target x", "b/BUILD=target y\ndep :z", "c/BUILD="+long), api.ErrLong)
	fails(t, files("a/BUILD=target x\ndep :y", "a/BUILD=target x"), api.ErrTwice)
	fails(t, files("a/BUILD=target x\ndep :y", "b/BUILD=target x\ntarget x"), api.ErrTwice)
}

// TestAllMany tells a tree of as many files as there may be.
func TestAllMany(t *testing.T) {
	var tree api.Tree
	var want []api.Target
	for i := range 1000 {
		dir := fmt.Sprintf("d%03d", i)
		body := "target x\nsrc a\n"
		x := on(dir+":x", dir+"/a")
		if i > 0 {
			before := fmt.Sprintf("d%03d:y", i-1)
			body += "dep " + before + "\n"
			x.Deps = append(x.Deps, before)
		}
		tree = append(tree, api.File{Path: dir + "/BUILD", Body: []byte("target y\ndep :x\n" + body)})
		want = append(want, x, on(dir+":y", dir+":x"))
	}
	tells(t, tree, want...)
	tree[999].Body = append(tree[999].Body, "dep d999:z\n"...)
	fails(t, tree, api.ErrDep)
	tree[999].Body = append(tree[999].Body, "dep d999"...)
	fails(t, tree, api.ErrLine)
}

// TestThereAndBackOfAll prints what a tree tells, a directory a file, and reads it again.
func TestThereAndBackOfAll(t *testing.T) {
	tree := files("BUILD=target a\nsrc x\ndep b:x\ntarget b # two\nsrc b/x\nsrc b/x", "b/BUILD= target x\n\n src x\n src c/y\n dep :x", "b/c/BUILD=target y\nsrc y\ndep b:x\ntarget z")
	l, e := build.All(tree)
	if e != api.OK || len(l) != 5 {
		t.Fatalf("All = %s, %d", show(l), e)
	}
	var again api.Tree
	for _, dir := range []string{"b/c", "", "b"} {
		var own []api.Target
		for _, x := range l {
			if d, _, _ := strings.Cut(x.Name, ":"); d == dir {
				own = append(own, x)
			}
		}
		again = append(again, api.File{Path: strings.TrimPrefix(dir+"/BUILD", "/"), Body: []byte(build.Print(own))})
	}
	tells(t, again, l...)
}
