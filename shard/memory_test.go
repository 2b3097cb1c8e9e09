package shard_test

import (
	"bytes"
	"fmt"
	"slices"
	"testing"

	"quilter/api"
	"quilter/shard"
)

// spoil writes over all that l has, and over the room behind it.
func spoil(l []string) {
	for i := range l[:cap(l)] {
		l[:cap(l)][i] = "!"
	}
}

// spoilShards does so with l and its lists, one after the other; it tells whether that of one changed the rest.
func spoilShards(l []api.Shard) bool {
	intact := true
	for i := range l {
		paths, behind := slices.Clone(l[i].Paths), show(l[i+1:])
		spoil(l[i].Owners)
		intact = intact && slices.Equal(l[i].Paths, paths)
		spoil(l[i].Paths)
		intact = intact && show(l[i+1:]) == behind
	}
	for i := range l[:cap(l)] {
		l[:cap(l)][i] = of(-1, "!", "!", "!")
	}
	return intact
}

// TestSplitMemory asks that what comes out is nobody else's, and that what was handed in stays.
func TestSplitMemory(t *testing.T) {
	body := []byte("ann\nbob\n?old target x\nsrc a\nsrc e")
	whole := api.Tree{{Path: "BUILD", Body: body[13:]}, {Path: "OWNERS", Body: body[:7]}}
	for _, p := range []string{"a", "b", "c", "d", "e", "f", "g"} {
		whole = append(whole, api.File{Path: p, Body: body[9:12]})
	}
	tree := whole[:7]
	rules := []api.Rule{{Kind: api.Replace, Glob: "*", Old: "old", New: "new"}, {Kind: api.Remove, Glob: "**"}}
	wasTree, wasRules, wasBody := showTree(whole), slices.Clone(rules), bytes.Clone(body)
	want := `1 ["ann" "bob"] ":x" ["a" "e"]; 2 ["ann" "bob"] "" ["b" "c"]; 3 ["ann" "bob"] "" ["d"]`
	for range 2 {
		first, _ := shard.Split(tree, rules[:1], 2)
		second, e := shard.Split(tree, rules[:1], 2)
		if e != api.OK || show(first) != want {
			t.Fatalf("Split = %s, %d; want %s", show(first), e, want)
		}
		if !spoilShards(first) {
			t.Error("what comes out shares with itself")
		}
		if show(second) != want {
			t.Errorf("two answers share: %s; want %s", show(second), want)
		}
		if _, e := shard.Split(whole[1:], wasRules, 1); e != api.OK {
			t.Errorf("Split of another one: %d", e)
		}
		shard.Split(tree, rules, 200)
		if showTree(whole) != wasTree || !slices.Equal(rules, wasRules) || !bytes.Equal(body, wasBody) {
			t.Errorf("what was handed in is %s, %v", showTree(whole), rules)
		}
	}
	// what was answered stays, whatever becomes of the bytes, and of the paths
	got, _ := shard.Split(tree, rules[:1], 2)
	for i := range body {
		body[i] = '!'
	}
	clear(whole)
	clear(rules)
	if show(got) != want {
		t.Errorf("what was answered is %s", show(got))
	}
}

// TestSplitSpoiltRow writes over each row of a heap, behind which another one stands.
func TestSplitSpoiltRow(t *testing.T) {
	tree := files(append(changing("a b c d e f g h"), "OWNERS=ann\nbob\ncy")...)
	l, e := shard.Split(tree, []api.Rule{old}, 3)
	if e != api.OK || len(l) != 3 {
		t.Fatalf("Split = %s, %d", show(l), e)
	}
	for i, s := range l {
		was := show(append(slices.Clone(l[:i]), l[i+1:]...))
		_, _ = append(s.Paths, "!"), append(s.Owners, "!")
		spoil(s.Owners)
		spoil(s.Paths)
		if got := show(append(slices.Clone(l[:i]), l[i+1:]...)); got != was {
			t.Errorf("behind the row %d: %s; want %s", i, got, was)
		}
	}
}

// TestTargetsMemory asks it of Edges and Ring.
func TestTargetsMemory(t *testing.T) {
	all := []string{"s", "t", "x", "y", "z", "behind"}
	whole := []api.Target{{Name: "x", Srcs: all[:1], Deps: all[3:5]}, {Name: "y", Srcs: all[:2], Deps: all[2:3]}, {Name: "z", Srcs: all[1:2]}, {Name: "behind", Srcs: all[:2], Deps: all[2:5]}}
	l := whole[:3]
	was := fmt.Sprintf("%q %v", all, whole)
	want := []api.Edge{{From: 0, To: 1}, {From: 0, To: 2}, {From: 1, To: 0}}
	for range 3 {
		first, second := shard.Edges(l), shard.Edges(l)
		clear(first[:cap(first)])
		if !slices.Equal(second, want) || !slices.Equal(shard.Edges(l), want) {
			t.Errorf("Edges = %v; want %v", second, want)
		}
		ring(t, l, "s", "x")
		ring(t, l, "t", "x")
		ring(t, whole[2:], "s", "behind")
		if now := fmt.Sprintf("%q %v", all, whole); now != was {
			t.Errorf("what was handed in is %s; want %s", now, was)
		}
	}
}

// TestShardsNotChanged asks it of Right and Same.
func TestShardsNotChanged(t *testing.T) {
	all := []string{"a", "b", "c", "d", "behind"}
	whole := []api.Shard{{ID: 1, Owners: all[:2], Ring: "r", Paths: all[:2]}, {ID: 2, Owners: all[1:3], Paths: all[2:4]}, {ID: 5, Paths: all[:1]}}
	was := show(whole)
	for range 2 {
		right(t, whole[:2], 2, true)
		right(t, whole, 2, false)
		if !shard.Same(whole[:2], whole[:2]) || shard.Same(whole, whole[:2]) {
			t.Error("Same of what is handed in")
		}
		if show(whole) != was || all[4] != "behind" {
			t.Errorf("what was handed in is %s, %q", show(whole), all)
		}
	}
}
