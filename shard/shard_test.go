package shard_test

import (
	"fmt"
	"math"
	"slices"
	"strings"
	"testing"

	"quilter/api"
	"quilter/shard"
)

// on answers a Target of these files and deps, each a text with blanks between.
func on(name string, srcs string, deps string) api.Target {
	return api.Target{Name: name, Srcs: strings.Fields(srcs), Deps: strings.Fields(deps)}
}

// chain answers n Targets: each stands on the next one, of one file each, s0 and so on.
func chain(n int) []api.Target {
	var l []api.Target
	for i := range n {
		l = append(l, on(fmt.Sprintf("t%d", i), fmt.Sprintf("s%d", i), fmt.Sprintf("t%d", i+1)))
	}
	return l
}

// of answers a Shard of these owners and paths, each a text with blanks between.
func of(id int, owners string, ring string, paths string) api.Shard {
	return api.Shard{ID: id, Owners: strings.Fields(owners), Ring: ring, Paths: strings.Fields(paths)}
}

// show answers all that stands in l.
func show(l []api.Shard) string {
	var out []string
	for _, s := range l {
		out = append(out, fmt.Sprintf("%d %q %q %q", s.ID, s.Owners, s.Ring, s.Paths))
	}
	return strings.Join(out, "; ")
}

// short answers the beginning of s.
func short(s string) string {
	return s[:min(len(s), 2000)]
}

// edges asks that Edges of l are just these, each a text `from-to`.
func edges(t *testing.T, l []api.Target, want string) {
	t.Helper()
	var got []string
	for _, e := range shard.Edges(l) {
		got = append(got, fmt.Sprintf("%d-%d", e.From, e.To))
	}
	if s := strings.Join(got, " "); s != want {
		t.Errorf("Edges(%v) = %s; want %s", l, short(s), short(want))
	}
}

func TestEdges(t *testing.T) {
	edges(t, nil, "")
	edges(t, []api.Target{}, "")
	edges(t, []api.Target{on(":x", "a b", "")}, "")
	edges(t, []api.Target{on(":x", "", ":x")}, "0-0")
	edges(t, []api.Target{on(":x", "", ":y"), on(":y", "", "")}, "0-1")
	edges(t, []api.Target{on(":x", "", ""), on(":y", "", ":x")}, "1-0")
	// all of them, in order, as they stand there
	edges(t, []api.Target{on("a:x", "a", "a:z a:y"), on("a:y", "a", "a:x"), on("a:z", "", "a:y a:x a:z")}, "0-2 0-1 1-0 2-1 2-0 2-2")
	edges(t, []api.Target{on(":x", "", ":y :y :x :y"), on(":y", "", "")}, "0-1 0-1 0-0 0-1")
	// none of one that is not there: a name is whole
	edges(t, []api.Target{on(":x", "", ":z :y :q"), on(":y", ":z", "x y")}, "0-1")
	edges(t, []api.Target{on("a:x", "", ":x x a: A:x a:xx a:x# a:x")}, "0-0")
	// of two of one name the first one is stood on, but each stands itself
	edges(t, []api.Target{on(":x", "", ":y"), on(":y", "", ":x"), on(":x", "", ":y :x"), on(":y", "", "")}, "0-1 1-0 2-1 2-0")
	// names may be any texts
	edges(t, []api.Target{{Name: "", Deps: []string{"", " ", "\xff"}}, {Name: "\xff", Deps: []string{"\ufffd", ""}}}, "0-0 0-1 1-0")
}

// ring asks that Ring of l and s is just that.
func ring(t *testing.T, l []api.Target, s string, want string) {
	t.Helper()
	if got := shard.Ring(l, s); got != want {
		t.Errorf("Ring(%v, %q) = %q; want %q", l, s, got, want)
	}
}

func TestRing(t *testing.T) {
	ring(t, nil, "a", "")
	ring(t, nil, "", "")
	ring(t, []api.Target{on(":x", "a b", "")}, "a", ":x")
	ring(t, []api.Target{on(":x", "a b", "")}, "b", ":x")
	for _, s := range []string{"", "c", ":x", "ab", "a b", "a/b", "A"} {
		ring(t, []api.Target{on(":x", "a b", "")}, s, "")
	}
	// of several targets that of the least place, wherever its name would stand
	l := []api.Target{on(":z", "b", ""), on(":y", "a b", ""), on(":x", "a c", ""), on(":w", "", "")}
	ring(t, l, "a", ":y")
	ring(t, l, "b", ":z")
	ring(t, l, "c", ":x")
	// to stand on one another is more than to stand on one
	ring(t, []api.Target{on(":a", "a", ""), on(":b", "b", ":a"), on(":c", "c", ":b :a")}, "b", ":b")
	ring(t, []api.Target{on(":a", "a", ""), on(":b", "b", ":a"), on(":c", "c", ":b :a")}, "c", ":c")
	ring(t, []api.Target{on(":a", "a", ":b"), on(":b", "b", ":c"), on(":c", "c", "")}, "c", ":c")
	ring(t, []api.Target{on(":a", "a", ":a"), on(":b", "b", ":b")}, "b", ":b")
	// of a ring its least one, whether the file is of it or not
	l = []api.Target{on(":a", "a", ""), on(":b", "b", ":d"), on(":c", "c", ":a"), on(":d", "d", ":e :a"), on(":e", "e", ":b :c")}
	for s, want := range map[string]string{"a": ":a", "b": ":b", "c": ":c", "d": ":b", "e": ":b"} {
		ring(t, l, s, want)
	}
	// the least of several rings is not that of the least place
	l = []api.Target{on(":a", "", ":d"), on(":b", "", ""), on(":c", "s", ""), on(":d", "s", ":a")}
	ring(t, l, "s", ":a")
	l[3].Deps = nil
	ring(t, l, "s", ":c")
	// what is not there makes no ring; nor does a second one of a name, which nobody stands on
	ring(t, []api.Target{on(":a", "a", ":q"), on(":b", "b", ":q")}, "b", ":b")
	ring(t, []api.Target{on(":a", "", ":b"), on(":b", "", ""), on(":c", "s", ":b"), on(":b", "t", ":c :a")}, "s", ":c")
	ring(t, []api.Target{on(":a", "", ":b"), on(":b", "", ""), on(":c", "s", ":b"), on(":b", "t", ":c :a")}, "t", ":b")
	// of a file that stands twice, too; and of any texts
	ring(t, []api.Target{on(":a", "b b a a", "")}, "a", ":a")
	ring(t, []api.Target{{Name: "", Srcs: []string{"a"}}, on(":x", "a", "")}, "a", "")
	ring(t, []api.Target{{Name: "\xff", Srcs: []string{"", "\xfe"}}, on(":x", "a", "")}, "", "\xff")
	ring(t, []api.Target{{Name: "\xff", Srcs: []string{"\xfe"}}, on(":x", "a", "")}, "\xfd", "")
}

// right asks whether l may be.
func right(t *testing.T, l []api.Shard, most int, want bool) {
	t.Helper()
	if got := shard.Right(l, most); got != want {
		t.Errorf("Right(%s, %d) = %t", short(show(l)), most, got)
	}
}

func TestRight(t *testing.T) {
	for _, most := range []int{math.MinInt, -1, 0, 1, 2, 100, 101, math.MaxInt} {
		right(t, nil, most, true)
		right(t, []api.Shard{}, most, true)
		right(t, []api.Shard{of(1, "", "", "")}, most, false)
		right(t, []api.Shard{of(1, "", "", "a")}, most, most >= 1)
		right(t, []api.Shard{of(1, "", "", "a b")}, most, most >= 2)
		right(t, []api.Shard{of(1, "a", "", "a"), of(2, "a", "", "b c")}, most, most >= 2)
	}
	// more than a Split may be asked for, too
	long := of(1, "", "", "")
	for i := range 101 {
		long.Paths = append(long.Paths, fmt.Sprintf("p%03d", i))
	}
	for _, most := range []int{100, 101, 102} {
		right(t, []api.Shard{long}, most, most > 100)
	}
	right(t, []api.Shard{of(1, "", "", "a b c")}, 3, true)
	right(t, []api.Shard{of(1, "", "", "a b c d")}, 3, false)
	right(t, []api.Shard{of(1, "", "", "a b c d"), of(2, "", "", "e")}, 3, false)
	right(t, []api.Shard{of(1, "", "", "a"), of(2, "", "", ""), of(3, "", "", "b")}, 3, false)
}

func TestRightIDs(t *testing.T) {
	for _, id := range []int{math.MinInt, -1, 0, 1, 2, 3, math.MaxInt} {
		right(t, []api.Shard{of(id, "", "", "a")}, 5, id == 1)
		right(t, []api.Shard{of(1, "", "", "a"), of(id, "", "", "b")}, 5, id == 2)
		right(t, []api.Shard{of(id, "", "", "a"), of(2, "", "", "b")}, 5, id == 1)
		right(t, []api.Shard{of(1, "", "", "a"), of(id, "", "", "b"), of(3, "", "", "c")}, 5, id == 2)
	}
	right(t, []api.Shard{of(2, "", "", "a"), of(1, "", "", "b")}, 5, false)
}

func TestRightRises(t *testing.T) {
	for s, want := range map[string]bool{
		"": true, "a": true, "a b": true, "a b c": true, "a ab b": true, "Z a": true, "a-b a/b": true, "a/b a0": true,
		"a a": false, "b a": false, "a b b": false, "a c b": false, "b a c": false, "a b a": false, "ab a": false, "a Z": false, "a/b a-b": false,
	} {
		right(t, []api.Shard{of(1, s, "", "x")}, 5, want)
		right(t, []api.Shard{of(1, "", "", "x"), of(2, s, "", "y")}, 5, want)
		right(t, []api.Shard{of(1, "x", "", s)}, 5, want && s != "")
		right(t, []api.Shard{of(1, "x", "", "0"), of(2, "x", "", s)}, 5, want && s != "")
	}
	// no word against the empty text, nor against bytes that no name has
	right(t, []api.Shard{{ID: 1, Owners: []string{"", " ", "\xff"}, Ring: "\xff", Paths: []string{"", "//", "\xff"}}}, 5, true)
	right(t, []api.Shard{{ID: 1, Owners: []string{"", ""}, Paths: []string{"a"}}}, 5, false)
	right(t, []api.Shard{{ID: 1, Paths: []string{"", ""}}}, 5, false)
}

func TestRightTwice(t *testing.T) {
	right(t, []api.Shard{of(1, "", "", "a"), of(2, "", "", "a")}, 5, false)
	right(t, []api.Shard{of(1, "", "", "a"), of(2, "b", "r", "a")}, 5, false)
	right(t, []api.Shard{of(1, "", "", "a b"), of(2, "", "", "c"), of(3, "", "", "b d")}, 5, false)
	right(t, []api.Shard{of(1, "", "", "c d"), of(2, "", "", "a b"), of(3, "", "", "c")}, 5, false)
	right(t, []api.Shard{of(1, "", "", "c d"), of(2, "", "", "a b e")}, 5, true) // paths of two shards need not rise
	right(t, []api.Shard{of(1, "o", "r", "a"), of(2, "o", "r", "b")}, 5, true)   // two may have the same owners, and ring
	right(t, []api.Shard{of(1, "a", "a", "a"), of(2, "a", "a", "b")}, 5, true)   // owners, and rings, are no paths
	right(t, []api.Shard{of(1, "", "", "a"), {ID: 2, Paths: []string{""}}, {ID: 3, Paths: []string{""}}}, 5, false)
}

func TestSame(t *testing.T) {
	whole := []api.Shard{of(1, "a b", "r", "x y"), of(2, "a", "", "z")}
	same := func(a []api.Shard, b []api.Shard, want bool) {
		t.Helper()
		if shard.Same(a, b) != want || shard.Same(b, a) != want {
			t.Errorf("Same(%s, %s) = %t", show(a), show(b), !want)
		}
	}
	same(nil, nil, true)
	same(nil, []api.Shard{}, true)
	same(nil, []api.Shard{{}}, false)
	same([]api.Shard{{}}, []api.Shard{{Owners: []string{}, Paths: []string{}}}, true)
	same([]api.Shard{{}}, []api.Shard{{Owners: []string{""}}}, false)
	same([]api.Shard{{}}, []api.Shard{{Paths: []string{""}}}, false)
	same(whole, []api.Shard{of(1, "a b", "r", "x y"), of(2, "a", "", "z")}, true)
	same(whole, whole[:1], false)
	same(whole, whole[1:], false)
	same(whole, []api.Shard{whole[1], whole[0]}, false)
	same(whole, append(slices.Clone(whole), api.Shard{}), false)
	for _, x := range []api.Shard{
		of(2, "a b", "r", "x y"), of(0, "a b", "r", "x y"), of(-1, "a b", "r", "x y"),
		of(1, "", "r", "x y"), of(1, "a", "r", "x y"), of(1, "b", "r", "x y"), of(1, "b a", "r", "x y"), of(1, "a b c", "r", "x y"), of(1, "a a b", "r", "x y"),
		of(1, "a b", "", "x y"), of(1, "a b", "R", "x y"), of(1, "a b", "rr", "x y"),
		of(1, "a b", "r", ""), of(1, "a b", "r", "x"), of(1, "a b", "r", "y"), of(1, "a b", "r", "y x"), of(1, "a b", "r", "x y z"), of(1, "a b", "r", "x z"),
	} {
		same(whole, []api.Shard{x, whole[1]}, false)
		same([]api.Shard{whole[1], whole[0]}, []api.Shard{whole[1], x}, false)
		same([]api.Shard{x}, []api.Shard{x}, true)
	}
}
