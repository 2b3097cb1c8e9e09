package rule_test

import (
	"slices"
	"strings"
	"testing"

	"quilter/api"
	"quilter/rule"
)

// some are rules of all kinds, and some text is theirs.
var some = []api.Rule{
	of(api.Replace, "**/*.go", "foo", "a b%"), of(api.Insert, "*", "", "x"), of(api.Strike, "a", "x y"), of(api.Rename, "**", "a/b", "c"), of(api.Remove, "d/**"),
}

const someText = "replace **/*.go foo a%20b%25\ninsert * % x\nstrike a x%20y\nrename ** a/b c\nremove d/**\n"

func TestParse(t *testing.T) {
	for s, want := range map[string][]api.Rule{
		"": nil, "\n": nil, "\n\n\n": nil, strings.Repeat("\n", 16384): nil,
		someText: some, someText + "\n": some, "\n\n" + strings.ReplaceAll(someText, "\n", "\n\n"): some, strings.TrimSuffix(someText, "\n"): some,
		"replace ** a b": {of(api.Replace, "**", "a", "b")}, "replace ** a %": {of(api.Replace, "**", "a")}, "replace a/*.go A_9 %0a%25": {of(api.Replace, "a/*.go", "A_9", "\n%")}, "replace ? _ a%20b": {of(api.Replace, "?", "_", "a b")},
		"insert * a b": {of(api.Insert, "*", "a", "b")}, "insert * % %": {of(api.Insert, "*")}, "insert * %20 %00%ff": {of(api.Insert, "*", " ", "\x00\xff")}, "insert * a %": {of(api.Insert, "*", "a")},
		"strike * a": {of(api.Strike, "*", "a")}, "strike * %": {of(api.Strike, "*")}, "strike * %c3%a9": {of(api.Strike, "*", "\u00e9")}, "strike * %0d": {of(api.Strike, "*", "\r")},
		"rename ** a b": {of(api.Rename, "**", "a", "b")}, "rename ** a/b c/d/e": {of(api.Rename, "**", "a/b", "c/d/e")}, "rename a a a": {of(api.Rename, "a", "a", "a")},
		"remove *": {of(api.Remove, "*")}, "remove remove": {of(api.Remove, "remove")}, "remove a/**/b?": {of(api.Remove, "a/**/b?")},
		// words of lines may be what a rule has
		"replace replace replace replace": {of(api.Replace, "replace", "replace", "replace")}, "strike insert remove": {of(api.Strike, "insert", "remove")},
		"replace ** a replace\nreplace ** a replace":              {of(api.Replace, "**", "a", "replace"), of(api.Replace, "**", "a", "replace")},
		"remove b\nremove a\nremove b":                            {of(api.Remove, "b"), of(api.Remove, "a"), of(api.Remove, "b")},
		"replace ** " + a(100) + " " + strings.Repeat("%20", 100): {of(api.Replace, "**", a(100), strings.Repeat(" ", 100))},
	} {
		if l, e := rule.Parse(s); e != api.OK || !slices.Equal(l, want) {
			t.Errorf("Parse(%q) = %s, %d; want %s", short(s), show(l), e, show(want))
		}
	}
}

// wrongLines are such as tell no rule that may be.
var wrongLines = []string{
	" ", "  ", "\t", "\r", "\x00", "\xff", "a", "%", "*", "#", "# remark",
	// another first word
	"move ** a b", "Replace ** a b", "REPLACE ** a b", "replaces ** a b", "replac ** a b", "replace: ** a b", "1 ** a b", "repl%61ce ** a b", "** a b", "add ** a", "delete **", "nothing **", "rule replace ** a b", "removed *", "\ufeffremove *",
	// more words, or less
	"replace", "replace **", "replace ** a", "replace ** a b c", "replace ** a b %", "insert", "insert *", "insert * a", "insert * a b c", "strike", "strike *", "strike * a b", "strike * a %", "strike ** a b c", "rename", "rename **", "rename ** a", "rename ** a b c", "remove", "remove * a", "remove * %", "remove * % %", "remove * a b",
	// other blanks
	" replace ** a b", "replace ** a b ", "replace  ** a b", "replace **  a b", "replace ** a  b", "replace ** a b  ", "replace ** a ", "replace **  b", "replace  a b", "strike * ", "strike  *", "insert *  b", "insert * a ", "insert *  ", "remove ", "remove  *", "remove * ", " remove *", "replace\t**\ta\tb", "replace ** a\tb", "remove\t*", "remove *\t", "remove *\r", "replace ** a b\r", "strike * a\r", "replace ** a\u00a0b", "remove\u00a0*", "replace ** a\vb c\f",
	// globs that may not be
	"replace a//b a c", "insert / a b", "strike *** a", "rename a/ a b", "remove /a", "remove .", "remove a/..", "remove a**", "remove [a]", "remove %2a", "remove %", "remove \u00e9", "remove " + a(31), "remove " + longPath(101), "strike % a",
	// texts that are no quotes
	"replace ** %61 b", "replace ** a %2", "replace ** a %%", "replace ** a %41", "replace ** a %2A", "replace ** a b%", "replace ** a \u00e9", "replace ** a \xff", "replace ** a \x7f", "insert * %61 b", "insert * a %62", "insert * %2 b", "strike * %61", "strike * \u00e9", "strike * %%", "rename ** %61 b", "rename ** a %62", "rename ** a%2fb c", "rename ** a b%2fc",
	// rules that may not be
	"replace ** a-b c", "replace ** % c", "replace ** %20 c", "replace ** %0a c", "replace ** %c3%a9 c", "replace ** a%20b c", "insert ** a%0ab c", "insert ** %0a c", "insert ** a %0a", "insert ** a b%0ac", "strike ** %0a", "strike ** a%0a", "rename ** a b/", "rename ** a/ b", "rename ** % b", "rename ** a %", "rename ** % %", "rename ** a ..", "rename ** . b", "rename ** a%20b c", "rename ** a *", "rename ** a b//c",
	"replace ** " + a(101) + " b", "replace ** a " + a(101), "replace ** a " + strings.Repeat("%20", 101), "insert ** " + a(101) + " b", "insert ** a " + a(101), "strike ** " + a(101), "strike ** " + strings.Repeat("%c3", 101), "rename ** " + longPath(101) + " b", "rename ** a " + a(31), "replace ** a " + a(16000), "strike " + a(16000) + " a", a(16384),
}

func TestParseWrong(t *testing.T) {
	for _, s := range wrongLines {
		for _, text := range []string{s, s + "\n", "\n" + s, "remove *\n" + s, s + "\nremove *", "remove *\n\n" + s + "\n\nremove *\n", s + "\n" + s} {
			if len(text) > api.MaxText {
				continue
			}
			if l, e := rule.Parse(text); e != api.ErrLine || len(l) != 0 {
				t.Errorf("Parse(%q) = %s, %d; want ErrLine", short(text), show(l), e)
			}
		}
	}
}

// TestParseBounds asks at the edges of MaxText and MaxRules.
func TestParseBounds(t *testing.T) {
	for n, want := range map[int]api.Errno{0: 0, 1: 0, 49: 0, 50: 0, 51: api.ErrLong, 52: api.ErrLong, 100: api.ErrLong, 1820: api.ErrLong, 1821: api.ErrLong} {
		for _, text := range []string{strings.Repeat("remove *\n", n), strings.TrimSuffix(strings.Repeat("remove *\n", n), "\n")} {
			l, e := rule.Parse(text)
			if e != want || e == api.OK && len(l) != n || e != api.OK && len(l) != 0 {
				t.Errorf("Parse of %d lines: %d rules, %d", n, len(l), e)
			}
		}
	}
	// lines without a byte are no rules
	if l, e := rule.Parse(strings.Repeat("\nremove *\n\n", 50)); e != api.OK || len(l) != 50 {
		t.Errorf("Parse of 50 lines and others without a byte: %d rules, %d", len(l), e)
	}
	for s, want := range map[string]api.Errno{
		strings.Repeat("\n", 16383): api.OK, strings.Repeat("\n", 16384): api.OK, strings.Repeat("\n", 16385): api.ErrLong, strings.Repeat("\n", 1<<20): api.ErrLong,
		someText + strings.Repeat("\n", 16384-len(someText)): api.OK, someText + strings.Repeat("\n", 16385-len(someText)): api.ErrLong,
	} {
		if l, e := rule.Parse(s); e != want || e != api.OK && len(l) != 0 {
			t.Errorf("Parse of %d bytes: %d rules, %d", len(s), len(l), e)
		}
	}
}

// TestParseOrder has several errors in one text: that of its bytes, of a line, and of the rules.
func TestParseOrder(t *testing.T) {
	many, far := strings.Repeat("remove *\n", 51), strings.Repeat("\n", 16384)
	for s, want := range map[string]api.Errno{
		many + "wrong": api.ErrLine, "wrong\n" + many: api.ErrLine, many + "\n \n" + many: api.ErrLine, many + many: api.ErrLong,
		far + "wrong": api.ErrLong, "wrong" + far: api.ErrLong, "wrong\n" + many + far: api.ErrLong, a(16384): api.ErrLine, a(16385): api.ErrLong,
		many + "strike * a b\n": api.ErrLine, many + "replace ** a-b c": api.ErrLine,
	} {
		if l, e := rule.Parse(s); e != want || len(l) != 0 {
			t.Errorf("Parse(%q), %d bytes: %s, %d; want %d", short(s), len(s), show(l), e, want)
		}
	}
}

func TestPrint(t *testing.T) {
	for want, l := range map[string][]api.Rule{
		"": {}, "replace ** a b\n": {of(api.Replace, "**", "a", "b")}, someText: some,
		"replace ** a %\n": {of(api.Replace, "**", "a")}, "replace ** a %0a%25%20\n": {of(api.Replace, "**", "a", "\n% ")},
		"insert * % %\n": {of(api.Insert, "*")}, "insert * a%09b %c3%a9\n": {of(api.Insert, "*", "a\tb", "\u00e9")},
		"strike * %\n": {of(api.Strike, "*")}, "strike * %25\n": {of(api.Strike, "*", "%")},
		"rename a/?/** a b/c\n": {of(api.Rename, "a/?/**", "a", "b/c")},
		"remove *\nremove *\n":  {of(api.Remove, "*"), of(api.Remove, "*")},
		"remove b\nremove a\n":  {of(api.Remove, "b"), of(api.Remove, "a")},
		strings.Repeat("strike ** "+strings.Repeat("%00", 100)+"\n", 50): slices.Repeat([]api.Rule{of(api.Strike, "**", strings.Repeat("\x00", 100))}, 50),
		strings.Repeat(someText, 10):                                     slices.Repeat(some, 10),
	} {
		if s, e := rule.Print(l); e != api.OK || s != want {
			t.Errorf("Print(%s) = %q, %d; want %q", show(l), short(s), e, short(want))
		}
	}
	if s, e := rule.Print(nil); e != api.OK || s != "" {
		t.Errorf("Print of nothing = %q, %d", s, e)
	}
}

func TestPrintWrong(t *testing.T) {
	for _, r := range wrong() {
		for _, l := range [][]api.Rule{{r}, append(slices.Clone(some), r), append([]api.Rule{r}, some...), append(slices.Repeat(some, 10), r), append(slices.Repeat([]api.Rule{r}, 51), some...)} {
			if s, e := rule.Print(l); e != api.ErrArg || s != "" {
				t.Errorf("Print of %d rules, with %s = %q, %d; want ErrArg", len(l), show([]api.Rule{r}), short(s), e)
			}
		}
	}
	for n := range 200 {
		want := api.OK
		if n > 50 {
			want = api.ErrLong
		}
		s, e := rule.Print(slices.Repeat([]api.Rule{of(api.Remove, "*")}, n))
		if e != want || e == api.OK && s != strings.Repeat("remove *\n", n) || e != api.OK && s != "" {
			t.Errorf("Print of %d rules = %q, %d", n, short(s), e)
		}
	}
}

// TestThereAndBack parses what is printed, of all rows of two rules of many.
func TestThereAndBack(t *testing.T) {
	texts := []string{"", "a", "A_9", "a b", "%", "%20", "\n", "\x00\xff", "a/b", "\u00e9", "\ufffd", " ", "~!", "replace", a(100), strings.Repeat("\x80", 100)}
	var all []api.Rule
	for kind := range 7 {
		for _, glob := range []string{"**", "a/*.go", "replace", longPath(99)} {
			for _, s := range texts {
				for _, u := range texts {
					if r := of(kind, glob, s, u); rule.Right(r) {
						all = append(all, r)
					}
				}
			}
		}
	}
	if len(all) < 500 {
		t.Fatalf("%d rules are right", len(all))
	}
	for i, r := range all {
		l := []api.Rule{r, all[(i*7+3)%len(all)]}
		s, e := rule.Print(l)
		if back, f := rule.Parse(s); e != api.OK || f != api.OK || !slices.Equal(back, l) {
			t.Errorf("Parse of Print(%s) = %s, %d, %d", show(l), show(back), e, f)
		}
	}
}

// TestPrintedBeyondParse has rules that may be, but whose text is longer than one may be: the chapter has no error for them.
func TestPrintedBeyondParse(t *testing.T) {
	l := slices.Repeat([]api.Rule{of(api.Insert, "**", strings.Repeat("\x00", 100), strings.Repeat("\x00", 100))}, 50)
	s, e := rule.Print(l)
	if e != api.OK || s != strings.Repeat("insert ** "+strings.Repeat("%00", 100)+" "+strings.Repeat("%00", 100)+"\n", 50) {
		t.Errorf("Print = %q, %d", short(s), e)
	}
	if back, e := rule.Parse(s); e != api.ErrLong || len(back) != 0 {
		t.Errorf("Parse of %d bytes: %d rules, %d", len(s), len(back), e)
	}
}
