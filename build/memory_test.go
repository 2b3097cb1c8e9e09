package build_test

import (
	"slices"
	"strings"
	"testing"

	"quilter/api"
	"quilter/build"
)

// deep answers a copy of l that shares nothing with it.
func deep(l []api.Target) []api.Target {
	var c []api.Target
	for _, t := range l {
		c = append(c, api.Target{Name: t.Name, Srcs: slices.Clone(t.Srcs), Deps: slices.Clone(t.Deps)})
	}
	return c
}

// spoil writes over all that l has, and over the room behind it.
func spoil(l []string) {
	for i := range l[:cap(l)] {
		l[:cap(l)][i] = "!"
	}
}

// spoilTargets does so with l and its lists, one after the other; it tells whether that of one changed the rest.
func spoilTargets(l []api.Target) bool {
	intact := true
	for rest := l; len(rest) > 0; rest = rest[1:] {
		deps, behind := slices.Clone(rest[0].Deps), show(rest[1:])
		spoil(rest[0].Srcs)
		intact = intact && slices.Equal(rest[0].Deps, deps)
		spoil(rest[0].Deps)
		rest[0] = on("!")
		intact = intact && show(rest[1:]) == behind
	}
	for i := range l[:cap(l)] {
		l[:cap(l)][i] = on("!")
	}
	return intact
}

// text tells several targets, each of several files, on several others.
const text = "target x\nsrc a\nsrc b\nsrc c\ndep :y\ndep :x\ndep :z\ntarget y\nsrc a\nsrc c\ndep :z\ntarget z\nsrc a\nsrc b\nsrc c\nsrc d\nsrc e\ndep :x\ntarget w"

func TestParseMemory(t *testing.T) {
	first, _ := build.Parse("d", text)
	second, _ := build.Parse("d", text)
	was := show(second)
	if !spoilTargets(first) {
		t.Error("what comes out shares with itself")
	}
	third, _ := build.Parse("d", text)
	if show(second) != was || show(third) != was {
		t.Errorf("two answers share: %s, %s; want %s", show(second), show(third), was)
	}
}

func TestAllMemory(t *testing.T) {
	body := []byte(text + "\n?")
	whole := api.Tree{{Path: "BUILD", Body: body[:len(text)]}, {Path: "a/BUILD", Body: body[:len(text)]}, {Path: "a/c", Body: body[:3]}, {Path: "b/BUILD", Body: body}}
	tree := whole[:3]
	was, wasBody := showTree(whole), string(body)
	first, _ := build.All(tree)
	second, e := build.All(tree)
	want := show(second)
	if e != api.OK || len(second) != 8 {
		t.Fatalf("All = %s, %d", want, e)
	}
	if !spoilTargets(first) {
		t.Error("what comes out shares with itself")
	}
	third, _ := build.All(tree)
	if show(second) != want || show(third) != want {
		t.Errorf("two answers share: %s, %s; want %s", show(second), show(third), want)
	}
	if _, e := build.All(whole); e != api.ErrLine {
		t.Errorf("All of a wrong file tells %d", e)
	}
	if showTree(whole) != was || string(body) != wasBody {
		t.Errorf("what was handed in is %s, %q", showTree(whole), body)
	}
	// what was answered stays, whatever becomes of the bytes
	for i := range body {
		body[i] = '!'
	}
	if show(second) != want {
		t.Errorf("what was answered is %s", show(second))
	}
}

// shared answers Targets whose lists all lie in one array, with room behind them that is somebody else's.
func shared() (l []api.Target, all []string, whole []api.Target) {
	all = []string{"d/a", "d/b", "c", "d:x", "e:y", "behind"}
	whole = []api.Target{{Name: "d:z", Srcs: all[:2], Deps: all[3:4]}, {Name: "d:x", Srcs: all[:3], Deps: all[3:5]}, {Name: "e:y", Srcs: all[1:2], Deps: all[4:5]}, {Name: "behind", Srcs: all[:1]}}
	return whole[:3], all, whole
}

func TestNotChanged(t *testing.T) {
	l, all, whole := shared()
	p, _, _ := shared()
	wasAll, was := slices.Clone(all), show(whole)
	const want = "target z\n  src a\n  src b\n  dep d:x\ntarget x\n  src a\n  src b\n  src c\n  dep d:x\n  dep e:y\ntarget y\n  src d/b\n  dep e:y\n"
	for range 2 {
		if s := build.Print(l); s != want {
			t.Errorf("Print = %q", s)
		}
		if !build.Same(l, p) || !build.Same(p, l) || build.Same(l, whole) || build.Same(whole, l) {
			t.Error("Same of what is handed in")
		}
		if build.Place(l, "e:y") != 2 || build.Place(l, "behind") != -1 {
			t.Error("Place of what is handed in")
		}
		first := build.Of(l, "d/b")
		second := build.Of(l, "d/b")
		spoil(first)
		if third := build.Of(l, "d/b"); strings.Join(second, " ") != "d:z d:x e:y" || !slices.Equal(second, third) {
			t.Errorf("Of = %q, %q", second, third)
		}
		spoil(build.Of(l, "nothing"))
	}
	if !slices.Equal(all, wasAll) || show(whole) != was {
		t.Errorf("what was handed in is %q, %s", all, show(whole))
	}
}
