package path_test

import (
	"strings"
	"testing"

	"quilter/api"
	"quilter/path"
)

func TestGlob(t *testing.T) {
	p30 := strings.Repeat("*?", api.MaxName/2)
	for _, g := range []string{
		"a", "a/b", "*", "?", "**", "**/**", "a/**/?*", "**/a/**", "*a*", "*?*", "?*?", "a.*", "...", ".*", "..?", ".?",
		"OWNERS", "-_.AZaz09*?", p30, "a/" + p30, long(99), long(97) + "/bc", strings.Repeat("**/", 33) + "a",
	} {
		if !path.Glob(g) {
			t.Errorf("Glob(%q) = false", g)
		}
	}
	for _, g := range []string{
		"", "/", "/a", "a/", "a//b", "**/", "/**", "**//**", ".", "..", "a/.", "../*", "**/..", "***", "****", "a**", "**a", "a**b", "a/b**/c", "?**",
		"a b", "[a]", "{a}", "a\\*", "!a", "\x00", "\u00e9*", "*\n", p30 + "?", "a/" + p30 + "?", long(101), long(99) + "/*", strings.Repeat("**/", 33) + "**",
	} {
		if path.Glob(g) {
			t.Errorf("Glob(%q) = true", g)
		}
	}
}

func TestMatch(t *testing.T) {
	for g, paths := range map[string][2][]string{ // those that match, and those that do not
		"a":         {{"a"}, {"b", "A", "aa", "a/a", "b/a", "a/b", ".a"}},
		"a/b":       {{"a/b"}, {"a", "b", "a/c", "a/b/c", "x/a/b"}},
		"*":         {{"a", "abc", ".a", "...", "-"}, {"a/b", "a/b/c"}},
		"**":        {{"a", "a/b", "a/b/c", ".a/.b"}, nil},
		"**/**":     {{"a", "a/b", "a/b/c"}, nil},
		"*/*":       {{"a/b"}, {"a", "a/b/c"}},
		"?":         {{"a", "-", "_"}, {"ab", "a/b"}},
		"??":        {{"ab"}, {"a", "abc"}},
		"a?c":       {{"abc", "a.c"}, {"ac", "abbc", "abd", "a/c"}},
		"a*":        {{"a", "ab", "a.go"}, {"ba", "a/b"}},
		"*a":        {{"a", "ba", "aa"}, {"ab", "b/a"}},
		"*.go":      {{"x.go", ".go", "a.b.go", ".go.go"}, {"x.gox", "xgo", "d/x.go"}},
		"a*b*c":     {{"abc", "aXbYc", "abbcc", "aXbYbc"}, {"ab", "aXbY", "acb", "abcd"}},
		"?*":        {{"a", "ab"}, {"a/b"}},
		"*?":        {{"a", "ab"}, nil},
		"a/**":      {{"a", "a/b", "a/b/c"}, {"b", "b/a", "ab/c"}},
		"**/c":      {{"c", "b/c", "a/b/c"}, {"c/d", "bc", "a/bc"}},
		"a/**/c":    {{"a/c", "a/b/c", "a/b/b/c", "a/c/c"}, {"a", "c", "a/c/d", "ac"}},
		"**/b/**":   {{"b", "a/b", "b/c", "a/b/c"}, {"a/c", "ab/c", "bb"}},
		"a/**/*.go": {{"a/x.go", "a/b/x.go"}, {"x.go", "b/x.go", "a/x.c", "a/x.go/y"}},
		"a/*/c":     {{"a/b/c", "a/c/c"}, {"a/c", "a/b/b/c"}},
		"**/a/**/a": {{"a/a", "b/a/b/a", "a/a/a"}, {"a", "a/b", "b/a"}},
		"**/*":      {{"a", "a/b"}, nil},
		"**/*/*":    {{"a/b", "a/b/c"}, {"a"}},
	} {
		for i, want := range []bool{true, false} {
			for _, s := range paths[i] {
				if path.Match(g, s) != want {
					t.Errorf("Match(%q, %q) = %v", g, s, !want)
				}
			}
		}
	}
}

func TestMatchOfNoGlobOrNoPath(t *testing.T) {
	for _, x := range [][2]string{
		{"", ""}, {"", "a"}, {"a", ""}, {"**", ""}, {"*", ""}, {"/", "/"}, {"a/", "a/"}, {"a/", "a"}, {"a", "a/"}, {"/a", "/a"}, {"**", "/a"}, {"**", "a//b"},
		{"a//b", "a//b"}, {".", "."}, {"..", ".."}, {"*", "."}, {"*", ".."}, {"**", "a/../b"}, {"**", "./a"}, {"??", ".."},
		{"a**", "ab"}, {"***", "a"}, {"a b", "a b"}, {"?", " "}, {"*", "*"}, {"**", "a*"}, {"?", "?"}, {"?", "\u00e9"}, {"?", "\xff"}, {"*", "a\x00"},
		{"*", strings.Repeat("a", 31)}, {"**", long(101)}, {long(101), long(101)}, {strings.Repeat("**/", 33) + "**", "a"}, {strings.Repeat("a", 31), strings.Repeat("a", 31)},
	} {
		if path.Match(x[0], x[1]) {
			t.Errorf("Match(%q, %q) = true", x[0], x[1])
		}
	}
}

func TestMatchAtTheLimits(t *testing.T) {
	n30 := strings.Repeat("a", api.MaxName)
	for _, x := range [][2]string{
		{n30, n30}, {"*", n30}, {strings.Repeat("?", 30), n30}, {strings.Repeat("*a", 15), n30}, {"**", long(99)}, {long(99), long(99)},
		{long(97) + "/?c", long(97) + "/bc"}, {strings.Repeat("**/", 33) + "a", "a"}, {strings.Repeat("**/", 33) + "b", long(99)},
	} {
		if !path.Match(x[0], x[1]) {
			t.Errorf("Match(%q, %q) = false", x[0], x[1])
		}
	}
}

// TestMatchEndsSoon asks what would take ages, were each way gone anew.
func TestMatchEndsSoon(t *testing.T) {
	for _, x := range [][2]string{
		{strings.Repeat("*a", 14) + "*b", strings.Repeat("a", 30)},
		{strings.Repeat("*?", 14) + "*b", strings.Repeat("a", 30)},
		{strings.Repeat("**/", 33) + "c", long(99)},
		{strings.Repeat("**/*/", 19) + "c", long(99)},
		{strings.Repeat("**/"+strings.Repeat("*a", 9)+"b/", 4) + "c", strings.Repeat(strings.Repeat("a", 30)+"/", 3) + "aaaa"},
	} {
		if !path.Glob(x[0]) || !path.Right(x[1]) {
			t.Errorf("%q, %q: not what is to be asked", x[0], x[1])
		}
		if path.Match(x[0], x[1]) {
			t.Errorf("Match(%q, %q) = true", x[0], x[1])
		}
	}
}

// rowsOf and bytesOf say the chapter's words over again, each way tried.
func rowsOf(patterns []string, names []string) bool {
	if len(patterns) == 0 {
		return len(names) == 0
	}
	if patterns[0] != "**" {
		return len(names) > 0 && bytesOf(patterns[0], names[0]) && rowsOf(patterns[1:], names[1:])
	}
	for n := range len(names) + 1 {
		if rowsOf(patterns[1:], names[n:]) {
			return true
		}
	}
	return false
}

func bytesOf(pattern string, name string) bool {
	if pattern == "" {
		return name == ""
	}
	if pattern[0] != '*' {
		return name != "" && (pattern[0] == '?' || pattern[0] == name[0]) && bytesOf(pattern[1:], name[1:])
	}
	for n := range len(name) + 1 {
		if bytesOf(pattern[1:], name[n:]) {
			return true
		}
	}
	return false
}

// TestMatchByTheWords holds Match against the plain words, of all short globs and paths.
func TestMatchByTheWords(t *testing.T) {
	paths := texts("ab/", 5)
	for _, g := range texts("ab*?/", 5) {
		for _, s := range paths {
			want := path.Glob(g) && path.Right(s) && rowsOf(strings.Split(g, "/"), strings.Split(s, "/"))
			if got := path.Match(g, s); got != want {
				t.Fatalf("Match(%q, %q) = %v", g, s, got)
			}
		}
	}
}

// rows answers one part for each digit of s, a slash between.
func rows(s string, parts ...string) string {
	var l []string
	for _, c := range []byte(s) {
		l = append(l, parts[c-'0'])
	}
	return strings.Join(l, "/")
}

// TestMatchOfLongerRows has more patterns, and more names, than fit into the short ones.
func TestMatchOfLongerRows(t *testing.T) {
	paths := texts("01", 5)
	for _, x := range texts("0123", 5) {
		g := rows(x, "**", "a", "*", "?b")
		for _, y := range paths {
			s := rows(y, "a", "bb")
			want := x != "" && y != "" && rowsOf(strings.Split(g, "/"), strings.Split(s, "/"))
			if got := path.Match(g, s); got != want {
				t.Fatalf("Match(%q, %q) = %v", g, s, got)
			}
		}
	}
}
