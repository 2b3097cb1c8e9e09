package path_test

import (
	"strings"
	"testing"

	"quilter/api"
	"quilter/path"
)

// texts answers all texts of at most so many of these bytes.
func texts(bytes string, most int) []string {
	all := []string{""}
	for begin := 0; most > 0; most-- {
		end := len(all)
		for _, s := range all[begin:end] {
			for _, c := range []byte(bytes) {
				all = append(all, s+string(rune(c)))
			}
		}
		begin = end
	}
	return all
}

// odd answers texts that nobody should hand in, but somebody may.
func odd() []string {
	return []string{
		"", "/", "//", ".", "..", "...", "/..", "../", "a/", "/a", "a//b", "a/./b", "a/../b", "*", "**", "***", "?", "a**", "**/", "/**",
		" ", "a b", "\x00", "a\x00", "\n", "\xff\xfe", "\u00e9", "\u65e5\u672c", "a\\b", "[a]", "{a}", "%", "~", ":",
		strings.Repeat("a", api.MaxName+1), strings.Repeat("a", 1<<16), strings.Repeat("/", 1<<16),
		strings.Repeat("../", 1<<16), strings.Repeat("a/", 1<<16), strings.Repeat("*/", 1<<16), strings.Repeat("?", 1<<16),
	}
}

// long answers a path of an odd number of bytes, each of its names one byte.
func long(n int) string {
	return strings.Repeat("a/", n/2) + "b"
}

func TestClean(t *testing.T) {
	n30 := strings.Repeat("n", api.MaxName)
	for s, want := range map[string]string{
		"/a//./b/../c":              "a/c",
		"a":                         "a",
		"a/b":                       "a/b",
		"/a":                        "a",
		"a/":                        "a",
		"//a///b//":                 "a/b",
		"./a/./b/.":                 "a/b",
		"a/b/..":                    "a",
		"a/../b":                    "b",
		"a/b/../../c":               "c",
		"a/b/c/../../d":             "a/d",
		"a//../b":                   "b",
		"a/./../b":                  "b",
		"...":                       "...",
		"..a/.b/c..":                "..a/.b/c..",
		"-_.AZaz09":                 "-_.AZaz09",
		"a b/../c":                  "c",
		"*/../c":                    "c",
		"\x00\xff/../c":             "c",
		n30:                         n30,
		n30 + "n/../c":              "c",
		strings.Repeat("/", 1000):   "",
		strings.Repeat("/./", 1000): "",
		strings.Repeat("a/", 1000) + strings.Repeat("../", 999): "a",
		strings.Repeat("./", 1000) + long(99):                   long(99),
		long(99) + "//":                                         long(99),
	} {
		wantErr := api.OK
		if want == "" {
			wantErr = api.ErrPath
		}
		if got, e := path.Clean(s); got != want || e != wantErr {
			t.Errorf("Clean(%.60q) = %q, %d; want %q, %d", s, got, e, want, wantErr)
		}
	}
}

func TestCleanRefuses(t *testing.T) {
	n30 := strings.Repeat("n", api.MaxName)
	for _, s := range []string{
		"", "/", "///", ".", "./.", "..", "/..", "../a", "a/../..", "a/../../b", "a/..", "./..", "//../a", "a/b/../../../c",
		"a b", "a/b c", "a/*", "?", "a\x00", "a/\n", "\u00e9", "\xff", "a\\b", "a:b",
		n30 + "n", "a/" + n30 + "n/b", long(101), long(101) + "/b/..", strings.Repeat("a/", 1<<16),
	} {
		if got, e := path.Clean(s); got != "" || e != api.ErrPath {
			t.Errorf("Clean(%.60q) = %q, %d; want nothing, ErrPath", s, got, e)
		}
	}
}

// TestCleanStaysClean holds Clean against Right: what is clean is a path, and a path is clean.
func TestCleanStaysClean(t *testing.T) {
	for _, s := range texts("ab./ ", 6) {
		got, e := path.Clean(s)
		if again, e2 := path.Clean(got); e == api.OK && (!path.Right(got) || again != got || e2 != api.OK) {
			t.Fatalf("Clean(%q) = %q; of that it is %q, %d", s, got, again, e2)
		}
		if e != api.OK && (e != api.ErrPath || got != "") {
			t.Fatalf("Clean(%q) = %q, %d", s, got, e)
		}
		if clean := e == api.OK && got == s; clean != path.Right(s) {
			t.Fatalf("Right(%q) = %v; Clean tells %q, %d", s, path.Right(s), got, e)
		}
	}
}

func TestRight(t *testing.T) {
	for _, s := range []string{"a", "a/b", "a/b.c", "...", ".a", "a.", "..a", "-", "_", "0/1/2", "OWNERS", strings.Repeat("a", 30), "d/" + strings.Repeat("a", 30), long(99), long(97) + "/bc"} {
		if !path.Right(s) {
			t.Errorf("Right(%q) = false", s)
		}
	}
	for _, s := range []string{"", "/", "/a", "a/", "a//b", ".", "..", "a/.", "a/..", "./a", "../a", "a/./b", "a/../b", "a b", "*", "a/?", "**", strings.Repeat("a", 31), "d/" + strings.Repeat("a", 31), long(101), long(99) + "/b"} {
		if path.Right(s) {
			t.Errorf("Right(%q) = true", s)
		}
	}
	if api.MaxPath != len(long(97)+"/bc") {
		t.Error("the longest path is not asked")
	}
}

// TestBytes asks each byte: of a name, and of a pattern.
func TestBytes(t *testing.T) {
	named := "abcdefghijklmnopqrstuvwxyzABCDEFGHIJKLMNOPQRSTUVWXYZ0123456789._-"
	for c := range 256 {
		b := string([]byte{byte(c)})
		s := "x" + b + "y"
		if want := strings.Contains(named, b); path.Right(s) != (want || b == "/") {
			t.Errorf("Right(%q) = %v", s, path.Right(s))
		}
		if want := strings.Contains(named+"*?/", b); path.Glob(s) != want {
			t.Errorf("Glob(%q) = %v", s, path.Glob(s))
		}
		if want := strings.Contains(named+"/", b); path.Match("x?y", s) != (want && b != "/") || path.Match(s, s) != want {
			t.Errorf("Match of %q: %v, %v", s, path.Match("x?y", s), path.Match(s, s))
		}
	}
}

func TestDirAndBase(t *testing.T) {
	for _, x := range []struct{ s, dir, base string }{
		{"a/b/c", "a/b", "c"},
		{"a/b", "a", "b"},
		{"a", "", "a"},
		{"", "", ""},
		{"/", "", ""},
		{"/a", "", "a"},
		{"a/", "a", ""},
		{"a//b", "a/", "b"},
		{"//", "/", ""},
		{"../..", "..", ".."},
		{"x y/\x00", "x y", "\x00"},
	} {
		if got := path.Dir(x.s); got != x.dir {
			t.Errorf("Dir(%q) = %q; want %q", x.s, got, x.dir)
		}
		if got := path.Base(x.s); got != x.base {
			t.Errorf("Base(%q) = %q; want %q", x.s, got, x.base)
		}
	}
}

func TestJoin(t *testing.T) {
	for _, x := range []struct{ dir, s, want string }{
		{"a", "b", "a/b"},
		{"a/b", "c/d", "a/b/c/d"},
		{"", "a", "a"},
		{"a", "", "a"},
		{"", "", ""},
		{"a/", "b", "a//b"},
		{"a", "/b", "a//b"},
		{"/", "", "/"},
		{"..", "..", "../.."},
		{" ", "*", " /*"},
	} {
		if got := path.Join(x.dir, x.s); got != x.want {
			t.Errorf("Join(%q, %q) = %q; want %q", x.dir, x.s, got, x.want)
		}
	}
}

// TestThereAndBack parts each path, and joins it again.
func TestThereAndBack(t *testing.T) {
	for _, s := range texts("ab./", 6) {
		dir, base := path.Dir(s), path.Base(s)
		if !path.Right(s) {
			continue
		}
		if got := path.Join(dir, base); got != s {
			t.Fatalf("Join(%q, %q) = %q; want %q", dir, base, got, s)
		}
		if strings.Contains(base, "/") || !path.Right(base) || dir != "" && !path.Right(dir) || !path.Under(s, dir) {
			t.Fatalf("%q is parted into %q and %q", s, dir, base)
		}
		if got := path.Join("d/e", s); path.Join(path.Dir(got), path.Base(got)) != got || !path.Under(got, "d/e") {
			t.Fatalf("Join(d/e, %q) = %q", s, got)
		}
	}
}

func TestUnder(t *testing.T) {
	for _, x := range []struct {
		s, dir string
		want   bool
	}{
		{"a/b", "a", true},
		{"a/b/c", "a", true},
		{"a/b/c", "a/b", true},
		{"a", "", true},
		{"", "", true},
		{"a", "a", false},
		{"ab", "a", false},
		{"ab/c", "a", false},
		{"b/a/c", "a", false},
		{"a", "a/b", false},
		{"", "a", false},
		{"a/", "a", true},
		{"a/b", "a/", false},
		{"a//b", "a/", true},
		{"/", "/", false},
		{"//", "/", true},
		{"/a", "/", false},
		{"A/b", "a", false},
	} {
		if got := path.Under(x.s, x.dir); got != x.want {
			t.Errorf("Under(%q, %q) = %v", x.s, x.dir, got)
		}
	}
}

// TestAnyInput hands everything in everywhere: each call ends, and none panics.
func TestAnyInput(t *testing.T) {
	for _, a := range odd() {
		if got, e := path.Clean(a); (e == api.OK) != path.Right(got) {
			t.Errorf("Clean(%.60q) = %q, %d", a, got, e)
		}
		if path.Right(a) && !path.Glob(a) {
			t.Errorf("%.60q is a path, but no glob", a)
		}
		path.Dir(a)
		path.Base(a)
		for _, b := range odd() {
			if path.Match(a, b) && (!path.Glob(a) || !path.Right(b)) {
				t.Errorf("Match(%.60q, %.60q) = true", a, b)
			}
			if joined := path.Join(a, b); a != "" && b != "" && !path.Under(joined, a) {
				t.Errorf("Join(%.60q, %.60q) is not under the former", a, b)
			}
			path.Under(a, b)
		}
	}
}
