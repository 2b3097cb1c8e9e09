package owners_test

import (
	"slices"
	"strings"
	"testing"

	"quilter/api"
	"quilter/owners"
)

// deep answers a copy of o that shares nothing with it.
func deep(o api.Owners) api.Owners {
	c := api.Owners{NoParent: o.NoParent}
	for _, l := range o.Lines {
		c.Lines = append(c.Lines, api.Line{Glob: l.Glob, Owners: slices.Clone(l.Owners)})
	}
	return c
}

// spoil writes over all that l has, and over the room behind it.
func spoil(l []string) {
	for i := range l[:cap(l)] {
		l[:cap(l)][i] = "!"
	}
}

// spoilOwners does so with o and its lists, one after the other; it tells whether that of one changed the rest.
func spoilOwners(o api.Owners) bool {
	intact := true
	for l := o.Lines; len(l) > 0; l = l[1:] {
		rest := deep(api.Owners{Lines: l[1:]})
		spoil(l[0].Owners)
		l[0] = per("!")
		intact = intact && show(api.Owners{Lines: l[1:]}) == show(rest)
	}
	for i := range o.Lines[:cap(o.Lines)] {
		o.Lines[:cap(o.Lines)][i] = per("!")
	}
	return intact
}

// shared answers Owners whose lists all lie in one array, with room behind them that is somebody else's.
func shared() (o api.Owners, all []string, lines []api.Line) {
	all = []string{"ann", "bob", "cy", "dan", "eve"}
	lines = []api.Line{{Owners: all[:1]}, {Glob: "*", Owners: all[:3]}, {Glob: "x", Owners: all[2:4]}, {Owners: all[1:3]}, {Glob: "behind"}}
	return api.Owners{NoParent: true, Lines: lines[:4]}, all, lines
}

func TestParseMemory(t *testing.T) {
	const s = "ann\nper-file *.go bob cy dan\nbob\nset noparent\nper-file x ann bob\nper-file y a b c d e f g h i j\ncy"
	first, _ := owners.Parse(s)
	second, _ := owners.Parse(s)
	was := deep(first)
	if !spoilOwners(first) {
		t.Error("what comes out shares with itself")
	}
	third, _ := owners.Parse(s)
	if show(second) != show(was) || show(third) != show(was) {
		t.Errorf("two answers share: %s, %s; want %s", show(second), show(third), show(was))
	}
}

func TestNotChanged(t *testing.T) {
	o, all, lines := shared()
	p, _, _ := shared()
	wasAll, was := slices.Clone(all), show(api.Owners{Lines: lines})
	const want = "set noparent\nann\nper-file * ann bob cy\nper-file x cy dan\nbob\ncy\n"
	for range 2 {
		if s := owners.Print(o); s != want {
			t.Errorf("Print = %q", s)
		}
		if !owners.Same(o, p) || !owners.Same(p, o) || owners.Same(o, api.Owners{Lines: lines}) {
			t.Error("Same of what is handed in")
		}
	}
	if !slices.Equal(all, wasAll) || show(api.Owners{Lines: lines}) != was {
		t.Errorf("what was handed in is %q, %s", all, show(api.Owners{Lines: lines}))
	}
}

func TestOfMemory(t *testing.T) {
	text := []byte("ann\nbob\nset noparent\nper-file * cy")
	whole := api.Tree{{Path: "OWNERS", Body: text[:3]}, {Path: "a/OWNERS", Body: text[:7]}, {Path: "a/b/OWNERS", Body: text}, {Path: "z/OWNERS", Body: text[4:]}}
	l := whole[:3]
	was, wasText := showTree(whole), string(text)
	for s, want := range map[string]string{"x": "ann", "a/x": "ann bob", "a/b/x": "ann bob cy", "a/b/c/x": "ann bob", "z/x": "ann"} {
		first, _ := owners.Of(l, s)
		second, _ := owners.Of(l, s)
		spoil(first)
		third, _ := owners.Of(l, s)
		if strings.Join(second, " ") != want || strings.Join(third, " ") != want {
			t.Errorf("Of %q = %q, %q; want %q", s, second, third, want)
		}
	}
	if showTree(whole) != was || string(text) != wasText {
		t.Errorf("what was handed in is %s, %q", showTree(whole), text)
	}
	// what was answered stays, whatever becomes of the bytes
	got, _ := owners.Of(l, "a/b/x")
	for i := range text {
		text[i] = '!'
	}
	if strings.Join(got, " ") != "ann bob cy" {
		t.Errorf("what was answered is %q", got)
	}
}
