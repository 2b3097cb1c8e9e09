package rule_test

import (
	"fmt"
	"math/rand"
	"regexp"
	"slices"
	"strings"
	"testing"

	"quilter/api"
	"quilter/rule"
)

// The forms of words and lines, as patterns of another language.
var (
	token      = regexp.MustCompile(`\A[0-9A-Z_a-z]+\z`)
	quote      = regexp.MustCompile(`\A(?:%|(?:[!-$&-~]|%(?:[01][0-9a-f]|20|25|7f|[89a-f][0-9a-f]))+)\z`)
	pieces     = regexp.MustCompile(`%[0-9a-f]{2}|[^%]`)
	globName   = regexp.MustCompile(`\A[A-Za-z0-9._*?-]{1,30}\z`)
	pathName   = regexp.MustCompile(`\A[A-Za-z0-9._-]{1,30}\z`)
	lineOfNone = regexp.MustCompile(`\A(remove) ([^ ]+)\z`)
	lineOfOne  = regexp.MustCompile(`\A(strike) ([^ ]+) ([^ ]+)\z`)
	lineOfTwo  = regexp.MustCompile(`\A(replace|insert|rename) ([^ ]+) ([^ ]+) ([^ ]+)\z`)
)

// plainParts tells whether s is parts of that form, a slash between, and no more than a path may have.
func plainParts(s string, form *regexp.Regexp) bool {
	for _, part := range strings.Split(s, "/") {
		if !form.MatchString(part) || part == "." || part == ".." || strings.Contains(part, "**") && part != "**" {
			return false
		}
	}
	return len(s) <= 100
}

// plainRight says the chapter's words over again.
func plainRight(r api.Rule) bool {
	right := plainParts(r.Glob, globName) && len(r.Old) <= 100 && len(r.New) <= 100
	switch r.Kind {
	case 1:
		return right && token.MatchString(r.Old)
	case 2:
		return right && strings.Count(r.Old, "\n") == 0 && strings.Count(r.New, "\n") == 0
	case 3:
		return right && strings.Count(r.Old, "\n") == 0 && len(r.New) == 0
	case 4:
		return right && plainParts(r.Old, pathName) && plainParts(r.New, pathName)
	case 5:
		return right && len(r.Old) == 0 && len(r.New) == 0
	}
	return false
}

// plainUnquote says the chapter's words over again.
func plainUnquote(s string) (string, bool) {
	if !quote.MatchString(s) {
		return "", false
	}
	if s == "%" {
		return "", true
	}
	return pieces.ReplaceAllStringFunc(s, func(p string) string {
		if len(p) < 3 {
			return p
		}
		var c byte
		fmt.Sscanf(p[1:], "%02x", &c)
		return string([]byte{c})
	}), true
}

// plainQuote says the chapter's words over again.
func plainQuote(s string) string {
	if len(s) == 0 {
		return "%"
	}
	var l []string
	for i := range len(s) {
		if s[i] >= 0x21 && s[i] <= 0x7e && s[i] != 0x25 {
			l = append(l, s[i:i+1])
		} else {
			l = append(l, fmt.Sprintf("%%%02x", s[i]))
		}
	}
	return strings.Join(l, "")
}

// plainLine says the chapter's words of one line over again.
func plainLine(line string) (api.Rule, bool) {
	var m []string
	for _, form := range []*regexp.Regexp{lineOfNone, lineOfOne, lineOfTwo} {
		if found := form.FindStringSubmatch(line); found != nil {
			m = found
		}
	}
	if m == nil {
		return api.Rule{}, false
	}
	texts := []string{"", ""}
	for i, s := range m[3:] {
		text, is := plainUnquote(s)
		if !is {
			return api.Rule{}, false
		}
		texts[i] = text
	}
	kinds := map[string]int{"replace": 1, "insert": 2, "strike": 3, "rename": 4, "remove": 5}
	r := of(kinds[m[1]], m[2], texts...)
	return r, plainRight(r)
}

// plainParse says the chapter's words over again.
func plainParse(s string) ([]api.Rule, api.Errno) {
	if len(s) > 16384 {
		return nil, api.ErrLong
	}
	var l []api.Rule
	for _, line := range strings.Split(s, "\n") {
		if len(line) == 0 {
			continue
		}
		r, right := plainLine(line)
		if !right {
			return nil, api.ErrLine
		}
		l = append(l, r)
	}
	if len(l) > 50 {
		return nil, api.ErrLong
	}
	return l, api.OK
}

// parses asks it, and holds it against the plain words; there and back, too.
func parses(t *testing.T, s string) bool {
	t.Helper()
	want, e := plainParse(s)
	l, got := rule.Parse(s)
	if got != e || !slices.Equal(l, want) {
		t.Errorf("Parse(%q) = %s, %d; want %s, %d", short(s), show(l), got, show(want), e)
		return false
	}
	text, f := rule.Print(l)
	back, g := rule.Parse(text)
	if f != api.OK || g != api.OK || !slices.Equal(back, l) {
		t.Errorf("Parse of Print(%s) = %s, %d, %d", show(l), show(back), f, g)
		return false
	}
	return true
}

// rowsOf answers all rows of at most so many of these words.
func rowsOf(most int, words ...string) [][]string {
	rows := [][]string{nil}
	for begin := 0; most > 0; most-- {
		end := len(rows)
		for _, row := range rows[begin:end] {
			for _, w := range words {
				rows = append(rows, append(slices.Clip(row), w))
			}
		}
		begin = end
	}
	return rows
}

// TestAllShortTexts holds all texts of a few pieces against the plain words.
func TestAllShortTexts(t *testing.T) {
	for _, row := range rowsOf(6, "remove", "strike", " ", "\n", "a", "%", "*", "/") {
		if !parses(t, strings.Join(row, "")) {
			return
		}
	}
}

// TestAllShortLines holds all lines of a few words against the plain words, with one ahead and one behind, too.
func TestAllShortLines(t *testing.T) {
	words := []string{"replace", "insert", "strike", "rename", "remove", "move", "", "a", "**", "a/b", "a/", "%", "%0a", "%20", "%61", "%C3", "a-b", "\u00e9", "\x7f"}
	for _, row := range rowsOf(4, words...) {
		line := strings.Join(row, " ")
		if !parses(t, line) || len(row) < 4 && !parses(t, "remove a\n"+line+"\n\nstrike ** a") {
			return
		}
	}
	for _, row := range rowsOf(5, "replace", "remove", "*", "b", "%") {
		for _, blank := range []string{" ", "  ", "\t"} {
			if line := strings.Join(row, blank); !parses(t, line) || !parses(t, " "+line) || !parses(t, line+" ") {
				return
			}
		}
	}
}

// TestAllShortQuotes holds all short texts of a few bytes against the plain words.
func TestAllShortQuotes(t *testing.T) {
	for _, row := range rowsOf(6, "%", "2", "5", "a", "A", "0", " ", "\xc3") {
		s := strings.Join(row, "")
		want, is := plainUnquote(s)
		if got, g := rule.Unquote(s); got != want || g != is {
			t.Fatalf("Unquote(%q) = %q, %t; want %q, %t", s, got, g, want, is)
		}
		word := rule.Quote(s)
		if back, g := rule.Unquote(word); word != plainQuote(s) || back != s || !g || !quote.MatchString(word) {
			t.Fatalf("Quote(%q) = %q; Unquote of that is %q, %t", s, word, back, g)
		}
	}
}

// drawn answers one of these.
func drawn(r *rand.Rand, l ...string) string {
	return l[r.Intn(len(l))]
}

// drawnBytes answers any bytes, fewer than n, mostly such as rules have.
func drawnBytes(r *rand.Rand, n int) string {
	b := make([]byte, r.Intn(n))
	for i := range b {
		b[i] = "ab_Z9%%20 -/*.\n"[r.Intn(15)]
		if r.Intn(10) == 0 {
			b[i] = byte(r.Intn(256))
		}
	}
	return string(b)
}

// drawnRule answers a rule, now and then one that may not be.
func drawnRule(r *rand.Rand) api.Rule {
	x := of(1+r.Intn(5), drawn(r, "*", "**", "a/**", "**/*.go", "?", "b/a?.*"))
	switch x.Kind {
	case api.Replace:
		x.Old, x.New = drawn(r, "a", "foo", "A_9"), drawnBytes(r, 20)
	case api.Insert:
		x.Old, x.New = strings.ReplaceAll(drawnBytes(r, 20), "\n", ""), strings.ReplaceAll(drawnBytes(r, 9), "\n", "")
	case api.Strike:
		x.Old = strings.ReplaceAll(drawnBytes(r, 20), "\n", "")
	case api.Rename:
		x.Old, x.New = drawn(r, "a", "a/b", "..."), drawn(r, "b", "b/c/d", "a", "-")
	}
	switch r.Intn(60) {
	case 0:
		x.Kind = r.Intn(9) - 1
	case 1:
		x.Old = drawnBytes(r, 130)
	case 2:
		x.New = drawnBytes(r, 130)
	case 3:
		x.Glob = drawnBytes(r, 5)
	}
	return x
}

// TestDrawnRules holds drawn rules, and lists of them, against the plain words.
func TestDrawnRules(t *testing.T) {
	r := rand.New(rand.NewSource(1))
	told := map[api.Errno]int{}
	for range 20000 {
		var l []api.Rule
		for range r.Intn(3) * r.Intn(30) {
			l = append(l, drawnRule(r))
		}
		if r.Intn(2) == 0 { // long lists without a wrong one would be few
			l = slices.DeleteFunc(l, func(x api.Rule) bool { return !plainRight(x) })
		}
		want := api.OK
		if len(l) > 50 {
			want = api.ErrLong
		}
		for _, x := range l {
			if rule.Right(x) != plainRight(x) {
				t.Fatalf("Right(%s) = %t", show([]api.Rule{x}), rule.Right(x))
			}
			if !plainRight(x) {
				want = api.ErrArg
			}
		}
		s, e := rule.Print(l)
		back, f := rule.Parse(s)
		if e != want || f != api.OK || e == api.OK && !slices.Equal(back, l) || e != api.OK && s != "" {
			t.Fatalf("Print(%s) = %q, %d; Parse of that is %s, %d", show(l), short(s), e, show(back), f)
		}
		told[e]++
	}
	if told[api.OK] < 3000 || told[api.ErrArg] < 1000 || told[api.ErrLong] < 100 {
		t.Errorf("errors of the lists: %v", told)
	}
}

// TestDrawnTexts holds drawn texts against the plain words; some have a byte, or a piece, that was put into them.
func TestDrawnTexts(t *testing.T) {
	r := rand.New(rand.NewSource(2))
	told := map[api.Errno]int{}
	for range 40000 {
		var lines []string
		for range r.Intn(5) {
			x := drawnRule(r)
			word := drawn(r, "replace", "insert", "strike", "rename", "remove")
			if plainRight(x) {
				word = []string{"replace", "insert", "strike", "rename", "remove"}[x.Kind-1]
			}
			words := []string{word, x.Glob, plainQuote(x.Old), plainQuote(x.New)}
			lines = append(lines, strings.Join(words[:2+map[string]int{"replace": 2, "insert": 2, "strike": 1, "rename": 2}[word]], " "))
		}
		s := strings.Join(lines, drawn(r, "\n", "\n", "\n\n"))
		if i := r.Intn(len(s) + 1); r.Intn(4) == 0 {
			s = s[:i] + drawn(r, " ", "%", "\n", "a", "%20", " %", "\xff", "\r\n", "/") + s[i:]
		}
		if !parses(t, s) {
			return
		}
		_, e := plainParse(s)
		told[e]++
	}
	if told[api.OK] < 10000 || told[api.ErrLine] < 5000 {
		t.Errorf("errors of the texts: %v", told)
	}
}

// TestAnyInput hands everything in everywhere: each call ends, and none panics.
func TestAnyInput(t *testing.T) {
	r := rand.New(rand.NewSource(3))
	for range 30000 {
		s := drawnBytes(r, 30)
		if r.Intn(1000) == 0 {
			s = drawnBytes(r, 40000)
		}
		if !parses(t, s) {
			return
		}
		want, is := plainUnquote(s)
		if got, g := rule.Unquote(s); got != want || g != is {
			t.Fatalf("Unquote(%q) = %q, %t", short(s), short(got), g)
		}
		if rule.Token(s) != token.MatchString(s) || rule.Quote(s) != plainQuote(s) {
			t.Fatalf("Token(%q) = %t, Quote = %q", short(s), rule.Token(s), short(rule.Quote(s)))
		}
		x := api.Rule{Kind: r.Intn(8) - 1, Glob: drawnBytes(r, 4), Old: s, New: drawnBytes(r, 4)}
		text, e := rule.Print([]api.Rule{x})
		if rule.Right(x) != plainRight(x) || (e == api.OK) != plainRight(x) || e != api.OK && (e != api.ErrArg || text != "") {
			t.Fatalf("Print(%s) = %q, %d", show([]api.Rule{x}), text, e)
		}
	}
}
