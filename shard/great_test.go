package shard_test

import (
	"fmt"
	"math"
	"slices"
	"strings"
	"testing"

	"quilter/api"
	"quilter/shard"
)

// TestGreatTree parts as many files as there may be.
func TestGreatTree(t *testing.T) {
	l := []string{"BUILD=target top\nsrc d0/f000\nsrc d1/f001", "OWNERS=top", "d1/OWNERS=ann", "d2/OWNERS=per-file *0 bob"}
	for i := range 996 {
		l = append(l, fmt.Sprintf("d%d/f%03d=old", i%3, i))
	}
	tree := files(l...)
	for _, most := range []int{1, 7, 99, 100} {
		got, e := shard.Split(tree, []api.Rule{old}, most)
		want, f := plainSplit(tree, []api.Rule{old}, most)
		if e != api.OK || f != api.OK || show(got) != show(want) || !shard.Right(got, most) || !shard.Same(got, want) {
			t.Errorf("Split = %s, %d; want %s, %d", short(show(got)), e, short(show(want)), f)
		}
		if most == 1 && len(got) != 996 {
			t.Errorf("%d Shards", len(got))
		}
	}
	splits(t, tree, nil, 5)
	fails(t, append(tree, api.File{Path: "x"}), nil, 5, api.ErrArg)
}

// many answers n BUILD files' texts with per targets each, and in each a file that changes.
func many(n int, per int) []string {
	var l []string
	for i := range n {
		var b strings.Builder
		for j := range per {
			fmt.Fprintf(&b, "target t%d\nsrc s\n", j)
		}
		l = append(l, fmt.Sprintf("d%02d/BUILD=%s", i, b.String()), fmt.Sprintf("d%02d/s=old", i))
	}
	return l
}

// TestGreatGraph asks at, and above, as many targets as graph tells anything of.
func TestGreatGraph(t *testing.T) {
	for n, want := range map[int]string{1999: "t1998", 2000: "t1998", 2001: ""} {
		ring(t, chain(n), "s1998", want)
		all := shard.Edges(chain(n))
		if len(all) != n-1 || all[n-2] != (api.Edge{From: n - 2, To: n - 1}) {
			t.Errorf("%d targets have %d Edges", n, len(all))
		}
		l := chain(n)
		l[n-1].Deps = []string{"t7"}
		ring(t, l, "s1998", strings.Replace(want, "t1998", "t7", 1))
		ring(t, l, "s3", strings.Replace(want, "t1998", "t3", 1))
	}
	l := many(10, 200)
	var parted []api.Shard
	for i := range 10 {
		parted = append(parted, of(i+1, "", fmt.Sprintf("d%02d:t0", i), fmt.Sprintf("d%02d/s", i)))
	}
	splits(t, files(l...), []api.Rule{old}, 5, parted...)
	// of one more nothing is told, so no file has a ring
	splits(t, files(append(l, "e/BUILD=target x\nsrc s", "e/s=old")...), []api.Rule{old}, 8, of(1, "", "", "d00/s d01/s d02/s d03/s d04/s d05/s d06/s d07/s"), of(2, "", "", "d08/s d09/s e/s"))
	// but what may not be is told, still
	fails(t, files(append(l, "e/BUILD=target x\ndep :y")...), []api.Rule{old}, 8, api.ErrDep)
}

// TestGreatTexts asks for as many files, and deps, as BUILD files may tell.
func TestGreatTexts(t *testing.T) {
	for _, line := range []string{"src s\n", "dep :x\n"} {
		text := "target x\nsrc s\n"
		text += strings.Repeat(line, (api.MaxText-len(text))/len(line))
		var l []string
		for i := range 500 {
			l = append(l, fmt.Sprintf("d%03d/BUILD=%s", i, text), fmt.Sprintf("d%03d/s=old", i))
		}
		got, e := shard.Split(files(l...), []api.Rule{old}, 5)
		if e != api.OK || len(got) != 500 || show(got[499:]) != `500 [] "d499:x" ["d499/s"]` {
			t.Errorf("%q: %d Shards, %d", line, len(got), e)
		}
	}
}

// TestGreatLists hands in lists that no tree tells.
func TestGreatLists(t *testing.T) {
	l := chain(300000)
	all := shard.Edges(l)
	for i, e := range all {
		if e.From != i || e.To != i+1 {
			t.Fatalf("the Edge %d is %v", i, e)
		}
	}
	if len(all) != len(l)-1 {
		t.Errorf("%d Edges", len(all))
	}
	ring(t, l[:0], "s0", "")
	if got := shard.Ring(l, "s0"); got != "" {
		t.Errorf("Ring = %q", got)
	}
	wide := []api.Target{{Name: "a", Deps: slices.Repeat([]string{"b", "q"}, 300000)}, {Name: "b", Deps: []string{"a"}, Srcs: slices.Repeat([]string{"s", "t"}, 300000)}}
	if got := shard.Edges(wide); len(got) != 300001 || got[299999] != (api.Edge{From: 0, To: 1}) || got[300000] != (api.Edge{From: 1, To: 0}) {
		t.Errorf("%d Edges", len(got))
	}
	if got := shard.Ring(wide, "t"); got != "a" {
		t.Errorf("Ring = %q", got)
	}
	var shards []api.Shard
	for i := range 300000 {
		shards = append(shards, of(i+1, "o", "r", fmt.Sprintf("p%d q%d", i, i)))
	}
	right(t, shards, 2, true)
	right(t, shards, 1, false)
	if !shard.Same(shards, slices.Clone(shards)) || shard.Same(shards, shards[1:]) {
		t.Error("Same of many")
	}
	shards[299999].Paths = []string{"p299999", "q0"}
	right(t, shards, 2, false)
}

// TestAnyInput asks only that each call ends, and does not panic; and that with an error nothing else is told.
func TestAnyInput(t *testing.T) {
	texts := []string{"", "a", "a/b", "OWNERS", "BUILD", "a/BUILD", "a/OWNERS", "//", "/BUILD", "..", " ", "\n", "\x00", "\xff\xfe", "target x\ndep :x", strings.Repeat("x", 1000)}
	numbers := []int{math.MinInt, -1, 0, 1, 2, 5, 100, 101, math.MaxInt}
	for _, s := range texts {
		for _, u := range texts {
			targets := []api.Target{{}, {Name: s, Srcs: []string{u, s}, Deps: []string{s, u}}, {Name: u, Deps: []string{s}}, {Name: s}}
			shard.Edges(targets)
			shard.Ring(targets, s)
			shard.Ring(targets, u)
			for _, n := range numbers {
				shards := []api.Shard{{ID: n, Owners: []string{s, u}, Ring: s, Paths: []string{u, s}}, {}}
				shard.Right(shards, n)
				shard.Same(shards, shards[:1])
				for _, tree := range []api.Tree{nil, {{Path: s, Body: []byte(u)}}, {{}, {Path: s}, {Path: u, Body: []byte(s)}}, {{Path: "BUILD", Body: []byte(s)}, {Path: "OWNERS", Body: []byte(u)}, {Path: "a", Body: []byte("old")}}} {
					for _, rules := range [][]api.Rule{nil, {old}, {{}}, {{Kind: n, Glob: s, Old: u, New: s}}, {{Kind: api.Rename, Glob: "**", Old: s, New: u}}} {
						if l, e := shard.Split(tree, rules, n); e != api.OK && len(l) > 0 || e == api.OK && !shard.Right(l, n) {
							t.Errorf("Split(%s, %v, %d) = %s, %d", showTree(tree), rules, n, show(l), e)
						}
					}
				}
			}
		}
	}
}
