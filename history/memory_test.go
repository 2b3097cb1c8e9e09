package history_test

import (
	"slices"
	"testing"

	"quilter/api"
	"quilter/history"
	"quilter/tree"
)

// spoil writes over all that b has, and over the room behind it.
func spoil(b []byte) {
	for i := range b[:cap(b)] {
		b[:cap(b)][i] = '!'
	}
}

// spoilFiles does so with a list of files, and their bodies.
func spoilFiles(t api.Tree) {
	for i := range t[:cap(t)] {
		spoil(t[:cap(t)][i].Body)
		t[:cap(t)][i] = api.File{Path: "!"}
	}
}

// spoilDeltas does so with a list of Deltas, and their bodies.
func spoilDeltas(l []api.Delta) {
	for i := range l[:cap(l)] {
		spoil(l[:cap(l)][i].Body)
		l[:cap(l)][i] = api.Delta{Path: "!"}
	}
}

// TestKeepsNothing hands in what is written over later: no revision may show it.
func TestKeepsNothing(t *testing.T) {
	first, l := files("a=one b=two"), deltas("~a=three +c=four")
	h, _ := history.New(first)
	if r, e := h.Commit(l...); r != 1 || e != api.OK {
		t.Fatalf("Commit = %d, %d", r, e)
	}
	if show(first) != `a="one" b="two"` || tell(l) != `2 a="three", 1 c="four"` {
		t.Errorf("what was handed in is %s; %s", show(first), tell(l))
	}
	spoilFiles(first)
	spoilDeltas(l)
	for r, want := range []string{"a=one b=two", "a=three b=two c=four"} {
		if u, e := h.At(r); e != api.OK || !tree.Same(u, files(want)) {
			t.Errorf("At(%d) = %s, %d; want %s", r, show(u), e, want)
		}
	}
	if got, e := h.Deltas(1); e != api.OK || tell(got) != `2 a="three", 1 c="four"` {
		t.Errorf("Deltas(1) = %s, %d", tell(got), e)
	}
}

// TestRefusedKeepsNothing asks it of a commit that is refused: it changes no more than it keeps.
func TestRefusedKeepsNothing(t *testing.T) {
	h, l := begun(t, "a=one"), deltas("~a=two +c=three +a=four")
	if r, e := h.Commit(l...); r != 0 || e != api.ErrThere || tell(l) != tell(deltas("~a=two +c=three +a=four")) {
		t.Errorf("Commit(%s) = %d, %d", tell(l), r, e)
	}
	if u, e := h.At(0); e != api.OK || !tree.Same(u, files("a=one")) || h.Last("a") != 0 {
		t.Errorf("At(0) = %s, %d; Last = %d", show(u), e, h.Last("a"))
	}
}

// sharesNothing writes over what came out of one call: neither what came out of another one, nor what comes out later, may show it.
func sharesNothing[T any](t *testing.T, one func() T, two func() T, show func(T) string, spoil func(T)) {
	t.Helper()
	first, second := one(), two()
	want := show(second)
	spoil(first)
	if got := show(second); got != want {
		t.Errorf("two answers share: %s; want %s", got, want)
	}
	spoil(second)
	if got := show(two()); got != want {
		t.Errorf("asked again: %s; want %s", got, want)
	}
}

// TestSharesNothing asks it of a history and itself, and of a history and its copy.
func TestSharesNothing(t *testing.T) {
	h := begun(t, "a=one b=two", "~a=three +c=four", "-b ~c=five")
	c := h.Copy()
	for _, other := range []*history.History{h, c, h} {
		for r := range 3 {
			at := func(x *history.History) func() api.Tree {
				return func() api.Tree { u, _ := x.At(r); return u }
			}
			made := func(x *history.History) func() []api.Delta {
				return func() []api.Delta { l, _ := x.Deltas(r); return l }
			}
			sharesNothing(t, at(h), at(other), show, spoilFiles)
			sharesNothing(t, made(h), made(other), tell, spoilDeltas)
		}
	}
	if u, e := c.At(2); e != api.OK || !tree.Same(u, files("a=three c=five")) {
		t.Errorf("At(2) of the copy = %s, %d", show(u), e)
	}
}

// TestBodiesShareNothing asks it of the bodies of one answer, where one body was handed in for all.
func TestBodiesShareNothing(t *testing.T) {
	body := []byte("one")
	h, _ := history.New(api.Tree{{Path: "a", Body: body}, {Path: "b", Body: body}})
	h.Commit(api.Delta{Kind: api.Modify, Path: "a", Body: body}, api.Delta{Kind: api.Add, Path: "c", Body: body})
	for r := range 2 {
		u, _ := h.At(r)
		spoil(u[0].Body)
		if string(u[1].Body) != "one" || string(body) != "one" {
			t.Errorf("At(%d) = %s; %s was handed in", r, show(u), body)
		}
	}
	l, _ := h.Deltas(1)
	spoil(l[0].Body)
	if string(l[1].Body) != "one" || string(body) != "one" {
		t.Errorf("Deltas(1) = %s; %s was handed in", tell(l), body)
	}
}

func TestSinceSharesNothing(t *testing.T) {
	h := begun(t, "a b", "~a=1 ~b=1")
	l := []string{"x", "a", "b", "x"}
	one, two := h.Since(0, l[:3]...), h.Since(-1, l[:3]...)
	clear(one[:cap(one)])
	if !slices.Equal(two, []string{"x", "a", "b"}) {
		t.Errorf("Since = %q", two)
	}
	clear(two[:cap(two)])
	if !slices.Equal(l, []string{"x", "a", "b", "x"}) {
		t.Errorf("what was handed in is %q", l)
	}
}
