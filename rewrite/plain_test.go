package rewrite_test

import (
	"bytes"
	"maps"
	"math/rand"
	"slices"
	"strings"
	"testing"
	"unicode"
	"unicode/utf8"

	"quilter/api"
	"quilter/path"
	"quilter/rewrite"
	"quilter/tree"
)

// plainReplace says the chapter's words over again, from the end of b to its beginning.
func plainReplace(old string, s string, b string) string {
	var out []string
	for b != "" {
		other := strings.TrimRight(b, signs)
		if row := b[len(other):]; row != "" && row == old {
			out = append(out, s)
		} else {
			out = append(out, row)
		}
		b = strings.TrimRightFunc(other, func(c rune) bool {
			return c != '_' && (c >= utf8.RuneSelf || !unicode.IsLetter(c) && !unicode.IsDigit(c))
		})
		out = append(out, other[len(b):])
	}
	slices.Reverse(out)
	return strings.Join(out, "")
}

// plainBody says the chapter's words over again.
func plainBody(r api.Rule, b string) string {
	if r.Kind == 1 {
		return plainReplace(r.Old, r.New, b)
	}
	if r.Kind != 2 && r.Kind != 3 || b == "" {
		return b
	}
	var out []string
	lines := strings.SplitAfter(b, "\n")
	if lines[len(lines)-1] == "" {
		lines = lines[:len(lines)-1]
	}
	for _, line := range lines {
		is := strings.TrimSuffix(line, "\n") == r.Old
		switch {
		case !is:
			out = append(out, line)
		case r.Kind == 2 && strings.HasSuffix(line, "\n"):
			out = append(out, line, r.New, "\n")
		case r.Kind == 2:
			out = append(out, line, "\n", r.New)
		}
	}
	return strings.Join(out, "")
}

// plainFile says the chapter's words over again; long tells that meanwhile there were more bytes than these words are good for.
func plainFile(l []api.Rule, p string, b string) (q string, c string, there bool, e api.Errno, long bool) {
	for _, r := range l {
		if !path.Match(r.Glob, p) {
			continue
		}
		b = plainBody(r, b)
		if long = len(b) > 1<<19; long {
			return
		}
		if r.Kind == 5 {
			return
		}
		if r.Kind == 4 && p == r.Old {
			p = r.New
		} else if r.Kind == 4 && r.Old != "" && strings.HasPrefix(p, r.Old+"/") {
			p = path.Join(r.New, strings.TrimPrefix(p, r.Old+"/"))
			if !path.Right(p) {
				return "", "", false, 4, false
			}
		}
	}
	if len(b) > 65536 {
		return "", "", false, 3, false
	}
	return p, b, true, 0, false
}

// plainTree says the chapter's words over again, of a tree and rules that may be.
func plainTree(l []api.Rule, t api.Tree) (u api.Tree, paths []string, ofTree api.Errno, ofFiles api.Errno, long bool) {
	all := map[string]string{}
	twice := false
	for _, f := range t {
		p, b, there, e, long := plainFile(l, f.Path, string(f.Body))
		if long || e != 0 {
			return nil, nil, e, e, long
		}
		if !there || p != f.Path || b != string(f.Body) {
			paths = append(paths, f.Path)
		}
		if there {
			_, is := all[p]
			twice = twice || is
			all[p] = b
		}
	}
	if twice {
		return nil, paths, 5, 0, false
	}
	for _, p := range slices.Sorted(maps.Keys(all)) {
		for q := range all {
			if strings.HasPrefix(p, q+"/") {
				return nil, paths, 4, 0, false
			}
		}
		u = append(u, file(p, all[p]))
	}
	return u, paths, 0, 0, false
}

// rowsOf answers all rows of at most so many of these words.
func rowsOf(most int, words ...string) []string {
	rows := []string{""}
	for begin := 0; most > 0; most-- {
		end := len(rows)
		for _, row := range rows[begin:end] {
			for _, w := range words {
				rows = append(rows, row+w)
			}
		}
		begin = end
	}
	slices.Sort(rows)
	return slices.Compact(rows)
}

// fewRules answers rules of bodies, of short texts.
func fewRules() []api.Rule {
	var l []api.Rule
	for _, s := range []string{"", "a", "b", "a b", "\n", "a\n", "\na", "b\na", "-", "\n\n"} {
		l = append(l, of(api.Replace, "**", "a", s), of(api.Replace, "**", "b", s))
	}
	for _, old := range []string{"", "a", "b", "a b", " ", "ab", "-"} {
		l = append(l, of(api.Strike, "**", old), of(api.Insert, "**", old, "a"), of(api.Insert, "**", old, ""), of(api.Insert, "**", old, "b\na"))
	}
	return l
}

// TestAllShortBodies holds all short texts, behind each rule and each two of them, against the plain words.
func TestAllShortBodies(t *testing.T) {
	few := fewRules()
	for _, s := range rowsOf(5, "a", "b", " ", "\n", "-") {
		for i, r := range few {
			want := plainBody(r, s)
			if got := rewrite.Body(r, []byte(s)); string(got) != want {
				t.Fatalf("Body(%s%q) = %q, want %q", showRules(rules(r)), s, got, want)
			}
			next := few[(i*7+len(s))%len(few)]
			if got := rewrite.InPieces([]byte(s), r, next); string(got) != plainBody(next, want) {
				t.Fatalf("%s%q: %q, want %q", showRules(rules(r, next)), s, got, plainBody(next, want))
			}
		}
	}
	for _, s := range rowsOf(3, "a", "b", " ", "\n") {
		for _, r := range few {
			for _, next := range few {
				want := plainBody(next, plainBody(r, s))
				if got := rewrite.InPieces([]byte(s), r, next); string(got) != want {
					t.Fatalf("%s%q: %q, want %q", showRules(rules(r, next)), s, got, want)
				}
			}
		}
	}
}

// drawn answers one of these.
func drawn(r *rand.Rand, l ...string) string {
	return l[r.Intn(len(l))]
}

// drawnText answers fewer than n pieces, one behind the other.
func drawnText(r *rand.Rand, n int) string {
	var b strings.Builder
	for range r.Intn(n) {
		b.WriteString(drawn(r, "a", "b", "c", "ab", " ", " ", "-", "\n", "\n", "\u00e9"))
	}
	return b.String()
}

// drawnBodyRule answers a rule of bodies that may be.
func drawnBodyRule(r *rand.Rand, glob string) api.Rule {
	oneLine := func(n int) string { return strings.ReplaceAll(drawnText(r, n), "\n", "") }
	switch r.Intn(4) {
	case 0:
		return of(api.Strike, glob, oneLine(3))
	case 1:
		return of(api.Insert, glob, oneLine(3), oneLine(4))
	}
	return of(api.Replace, glob, drawn(r, "a", "b", "c", "ab"), drawnText(r, 6))
}

// TestDrawnBodies holds drawn texts, behind several rules, against the plain words.
func TestDrawnBodies(t *testing.T) {
	r := rand.New(rand.NewSource(1))
	empty := 0
	for range 40000 {
		s := drawnText(r, 30)
		want := s
		var l []api.Rule
		for range r.Intn(12) {
			x := drawnBodyRule(r, "**")
			next := plainBody(x, want)
			if len(next) > 20000 {
				break
			}
			l, want = append(l, x), next
		}
		if want == "" {
			empty++
		}
		if got := rewrite.InPieces([]byte(s), l...); string(got) != want {
			t.Fatalf("%s%q: %q, want %q", showRules(l), s, got, want)
		}
		got, there, e := rewrite.File(l, file("p", s))
		if !there || e != api.OK || got.Path != "p" || string(got.Body) != want {
			t.Fatalf("File(%s%q) = %q, %t, %d, want %q", showRules(l), s, got.Body, there, e, want)
		}
	}
	if empty < 1000 {
		t.Errorf("%d are empty", empty)
	}
}

// TestDrawnLong does so with texts that are longer than a file may be, meanwhile or at last.
func TestDrawnLong(t *testing.T) {
	r := rand.New(rand.NewSource(2))
	told := map[api.Errno]int{}
	shrunk := 0
	for range 150 {
		s := strings.Repeat(drawnText(r, 9), 1+r.Intn(30000))
		var l []api.Rule
		for range r.Intn(4) {
			l = append(l, drawnBodyRule(r, "**"))
		}
		for _, old := range []string{"a", "b", "c", "ab"} { // so that many lines come to be the same
			l = append(l, of(api.Replace, "**", old, drawn(r, "", "a", "\n", "\n")))
		}
		for range 6 {
			l = append(l, of(api.Strike, "**", drawn(r, "", " ", "-", "a", "  ", "- ", " -")))
		}
		_, want, there, e, long := plainFile(l, "p", s)
		if long {
			continue
		}
		got, is, f := rewrite.File(l, file("p", s))
		if is != there || f != e || string(got.Body) != want {
			t.Fatalf("File(%s%d bytes, %q) = %d bytes, %t, %d, want %d, %t, %d", showRules(l), len(s), short(s), len(got.Body), is, f, len(want), there, e)
		}
		told[e]++
		if e == api.OK && len(s) > api.MaxBody {
			shrunk++
		}
	}
	if told[api.OK] < 50 || told[api.ErrLong] < 50 || shrunk < 5 {
		t.Errorf("%v, and %d came to fewer bytes", told, shrunk)
	}
}

// drawnRule answers a rule that may be.
func drawnRule(r *rand.Rand) api.Rule {
	glob := drawn(r, "**", "**", "**", "*", "a/**", "*/b", "b", "c/*")
	switch r.Intn(9) {
	case 0:
		return of(api.Remove, drawn(r, "b", "c/*", "a/b", "*/c", "aa"))
	case 1, 2, 3, 4, 5:
		return of(api.Rename, glob, drawn(r, "a", "b", "c", "aa", "a/b"), drawn(r, "a", "b", "a", "b", "c", "aa", "a/b", "c/a/b", "b.x", path99("d")[:97]))
	}
	return drawnBodyRule(r, glob)
}

// drawnTree answers a tree that may be.
func drawnTree(r *rand.Rand) api.Tree {
	var t api.Tree
	for range r.Intn(10) {
		p := drawn(r, "a", "b", "c", "aa")
		for range r.Intn(3) {
			p += "/" + drawn(r, "a", "b")
		}
		if next := tree.Put(t, file(p, drawnText(r, 8))); tree.Right(next) {
			t = next
		}
	}
	return t
}

// same tells whether a and b are, byte by byte.
func same(a api.Tree, b api.Tree) bool {
	return slices.EqualFunc(a, b, func(f, g api.File) bool { return f.Path == g.Path && bytes.Equal(f.Body, g.Body) })
}

// fileByFile answers t behind what each file of it changes by; ErrThere and the like, if it can't be.
func fileByFile(l []api.Rule, t api.Tree) (api.Tree, api.Errno) {
	var gone, other []api.Delta
	for _, f := range t {
		changes, e := rewrite.Of(l, f)
		if e != api.OK {
			return nil, e
		}
		for _, d := range changes {
			if d.Kind == api.Delete {
				gone = append(gone, d)
			} else {
				other = append(other, d)
			}
		}
	}
	return tree.Apply(t, append(gone, other...)...)
}

// TestDrawnTrees holds drawn trees and rules against the plain words; and changes, file by file, against the whole.
func TestDrawnTrees(t *testing.T) {
	r := rand.New(rand.NewSource(3))
	told := map[api.Errno]int{}
	idem := map[bool]int{}
	for range 40000 {
		x := drawnTree(r)
		var l []api.Rule
		for range r.Intn(7) {
			l = append(l, drawnRule(r))
		}
		want, paths, ofTree, ofFiles, long := plainTree(l, x)
		if long {
			continue
		}
		told[ofTree]++
		got, e := rewrite.Tree(l, x)
		if e != ofTree || !same(got, want) {
			t.Fatalf("Tree(%s%s) = %s, %d, want %s, %d", showRules(l), show(x), show(got), e, show(want), ofTree)
		}
		if whole, f := fileByFile(l, x); f != e || !same(whole, got) {
			t.Fatalf("%s%s: file by file %s, %d, as a whole %s, %d", showRules(l), show(x), show(whole), f, show(got), e)
		}
		if c, e := rewrite.Changed(l, x); e != ofFiles || !slices.Equal(c, paths) {
			t.Fatalf("Changed(%s%s) = %q, %d, want %q, %d", showRules(l), show(x), c, e, paths, ofFiles)
		}
		again, _, f, _, long := plainTree(l, want)
		is := e == api.OK && f == api.OK && same(again, want)
		if !long && rewrite.Idem(l, x) != is {
			t.Fatalf("Idem(%s%s) = %t", showRules(l), show(x), !is)
		}
		idem[is]++
	}
	if told[api.OK] < 1000 || told[api.ErrThere] < 500 || told[api.ErrPath] < 500 || idem[true] < 1000 || idem[false] < 1000 {
		t.Errorf("%v, %v", told, idem)
	}
}
