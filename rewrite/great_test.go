package rewrite_test

import (
	"fmt"
	"slices"
	"strings"
	"testing"

	"quilter/api"
	"quilter/rewrite"
)

// times answers a rule so often.
func times(n int, r api.Rule) []api.Rule {
	return slices.Repeat(rules(r), n)
}

// and answers a list of its own: l, and more behind it.
func and(l []api.Rule, more ...api.Rule) []api.Rule {
	return slices.Concat(l, more)
}

// TestGreat asks for rules that make more bytes than anybody has room for, meanwhile or at last.
func TestGreat(t *testing.T) {
	many := strings.TrimSuffix(strings.Repeat("a ", 50), " ")
	greater := times(40, of(api.Replace, "**", "a", many))
	doubled := times(45, of(api.Insert, "**", "a", "a"))
	apart := rules(of(api.Replace, "**", "a", "\n"), of(api.Strike, "**", " "))
	for i, x := range []struct {
		l          []api.Rule
		body, want string
		e          api.Errno
	}{
		{greater, "a", "", api.ErrLong}, {greater, "b", "b", api.OK}, {greater, "", "", api.OK}, {greater, "x a y\nz", "", api.ErrLong},
		{times(50, of(api.Replace, "**", "a", "a a")), "a", "", api.ErrLong}, {times(50, of(api.Replace, "**", "a", "a\na")), "a", "", api.ErrLong}, {times(50, of(api.Replace, "**", "a", strings.Repeat("\na", 50))), "a", "", api.ErrLong},
		{doubled, "a", "", api.ErrLong}, {doubled, "a\n", "", api.ErrLong}, {doubled, "b\na", "", api.ErrLong}, {doubled, "b", "b", api.OK}, {times(50, of(api.Insert, "**", "", "")), "\n", "", api.ErrLong},
		// and few again
		{and(doubled, of(api.Strike, "**", "a")), "a", "", api.OK}, {and(doubled, of(api.Strike, "**", "a")), "b\na\nc\na", "b\nc\n", api.OK}, {and(doubled, of(api.Strike, "**", "b")), "b\na\nc\na", "", api.ErrLong}, {and(doubled, of(api.Replace, "**", "a", "b"), of(api.Strike, "**", "b")), "a\n a\n", " b\n", api.OK},
		{and(greater, apart...), "a", "\n", api.OK}, {and(greater, apart...), "x a y\nz", "x \n y\nz", api.OK}, {and(greater, apart[0]), "a", "", api.ErrLong}, {and(greater, apart[1]), "a", "", api.ErrLong}, {and(greater, apart...), "a\na-a\na", "\n\n\n-\n\n\n", api.OK},
		{slices.Concat(greater[:9], doubled[:5], apart, rules(of(api.Strike, "**", ""))), "\na\n1 a\na 2\n", "1 \n 2\n", api.OK},
		{slices.Concat(doubled[:20], greater[:20], apart, rules(of(api.Strike, "**", ""))), "a", "", api.OK},
		{and(greater, of(api.Replace, "**", "a", "")), "a", "", api.ErrLong}, {and(greater, of(api.Replace, "**", "a", ""), of(api.Strike, "**", strings.Repeat(" ", 99))), "a", "", api.ErrLong},
		{and(greater[:1], of(api.Replace, "**", "a", ""), of(api.Strike, "**", strings.Repeat(" ", 49))), "a\na", "", api.OK}, {and(greater[:1], of(api.Replace, "**", "a", ""), of(api.Strike, "**", strings.Repeat(" ", 49))), "x a", "x" + strings.Repeat(" ", 50), api.OK},
		{and(times(40, of(api.Replace, "**", "a", "a\na")), of(api.Insert, "**", "b a", "1"), of(api.Insert, "**", "a c", "2"), of(api.Strike, "**", "a")), "b a c", "b a\n1\na c\n2", api.OK},
		// to the byte
		{doubled[:15], "a\n", strings.Repeat("a\n", 1<<15), api.OK}, {doubled[:16], "a\n", "", api.ErrLong}, {and(doubled[:16], of(api.Replace, "**", "a", "")), "a\n", strings.Repeat("\n", 1<<16), api.OK}, {and(doubled[:17], of(api.Replace, "**", "a", "")), "a\n", "", api.ErrLong}, {doubled[:15], "a", strings.Repeat("a\n", 1<<15)[:1<<16-1], api.OK}, {and(doubled[:16], of(api.Replace, "**", "a", "")), "a", strings.Repeat("\n", 1<<16-1), api.OK},
		{and(times(17, of(api.Replace, "**", "a", "a a")), of(api.Replace, "**", "a", "")), "a", "", api.ErrLong}, {and(times(16, of(api.Replace, "**", "a", "a a")), of(api.Replace, "**", "a", "")), "a", strings.Repeat(" ", 1<<16-1), api.OK}, {and(times(16, of(api.Replace, "**", "a", "a a")), of(api.Replace, "**", "a", "")), "-a", "-" + strings.Repeat(" ", 1<<16-1), api.OK}, {and(times(16, of(api.Replace, "**", "a", "a a")), of(api.Replace, "**", "a", "")), "-a-", "", api.ErrLong},
	} {
		f, there, e := rewrite.File(x.l, file("p", x.body))
		if there != (x.e == api.OK) || e != x.e || string(f.Body) != x.want {
			t.Errorf("%d: File of %q = %d bytes, %q, %t, %d, want %d, %q, %d", i, x.body, len(f.Body), short(string(f.Body)), there, e, len(x.want), short(x.want), x.e)
		}
		u, e := rewrite.Tree(x.l, files("p="+x.body))
		if e != x.e || e == api.OK && string(u[0].Body) != x.want {
			t.Errorf("%d: Tree of %q = %s, %d", i, x.body, show(u), e)
		}
		if _, e := rewrite.Changed(x.l, files("p="+x.body)); e != x.e {
			t.Errorf("%d: Changed of %q: %d", i, x.body, e)
		}
		gone, there, e := rewrite.File(and(x.l, of(api.Remove, "**")), file("p", x.body))
		if there || e != api.OK || len(gone.Body) > 0 {
			t.Errorf("%d: File of %q, removed = %s, %t, %d", i, x.body, show(api.Tree{gone}), there, e)
		}
		if _, _, e := rewrite.File(and(x.l, of(api.Rename, "**", "p", path99("q"))), file("p/x", x.body)); e != api.ErrPath {
			t.Errorf("%d: File of %q, renamed: %d", i, x.body, e)
		}
	}
}

// TestGreatOfOthers asks for rules of which each makes something else of all that the one ahead made.
func TestGreatOfOthers(t *testing.T) {
	var b strings.Builder
	for i := 0; b.Len() < 12000; i++ {
		fmt.Fprintf(&b, "a -%d- ", i)
	}
	for _, between := range []string{" ", "\n", "\nx ", " y\n"} {
		var l []api.Rule
		for i := range 25 {
			l = append(l, of(api.Replace, "**", "ab"[i%2:][:1], "b"+between+"b"), of(api.Replace, "**", "b", "ba"[i%2:][:1]))
		}
		if _, there, e := rewrite.File(l, file("p", b.String())); there || e != api.ErrLong {
			t.Errorf("%q: %t, %d", between, there, e)
		}
	}
}

// TestGreatBodies asks Body for more bytes than a file may have.
func TestGreatBodies(t *testing.T) {
	for _, n := range []int{api.MaxBody, 1 << 19} {
		for _, x := range []struct {
			r       api.Rule
			b, want string
		}{
			{of(api.Replace, "", "a", "bcd"), "a\n", "bcd\n"}, {of(api.Replace, "", "a", "x\ny"), "a ", "x\ny "}, {of(api.Replace, "", "a", ""), "-a", "-"}, {of(api.Replace, "", "b", "a"), "a\n", "a\n"},
			{of(api.Insert, "", "a", "b"), "a\n", "a\nb\n"}, {of(api.Insert, "", "", "x"), "\n", "\nx\n"}, {of(api.Strike, "", "a"), "a\nb\n", "b\n"}, {of(api.Strike, "", ""), "\n\n", ""}, {of(api.Remove, ""), "x", "x"},
		} {
			got := rewrite.Body(x.r, []byte(strings.Repeat(x.b, n)))
			if string(got) != strings.Repeat(x.want, n) {
				t.Errorf("Body(%s%d times %q): %d bytes, %q", showRules(rules(x.r)), n, x.b, len(got), short(string(got)))
			}
		}
	}
	if got := rewrite.Body(of(api.Replace, "", "a", a(1<<10)), []byte(strings.Repeat("a ", 1<<14))); len(got) != 1<<24+1<<14 {
		t.Errorf("%d bytes", len(got))
	}
}
