package rewrite_test

import (
	"fmt"
	"strings"
	"testing"

	"quilter/api"
	"quilter/rewrite"
)

// of answers a rule of these texts; those that are left out have no byte.
func of(kind int, glob string, texts ...string) api.Rule {
	texts = append(texts, "", "")
	return api.Rule{Kind: kind, Glob: glob, Old: texts[0], New: texts[1]}
}

// signs are all that a token may have.
const signs = "abcdefghijklmnopqrstuvwxyzABCDEFGHIJKLMNOPQRSTUVWXYZ0123456789_"

// rules answers a list of them.
func rules(l ...api.Rule) []api.Rule {
	return l
}

// file answers a file of that body.
func file(path string, body string) api.File {
	return api.File{Path: path, Body: []byte(body)}
}

// files answers a tree of words `path=body`.
func files(words ...string) api.Tree {
	var t api.Tree
	for _, w := range words {
		path, body, _ := strings.Cut(w, "=")
		t = append(t, file(path, body))
	}
	return t
}

// a answers a row of that letter, so many bytes long.
func a(n int) string {
	return strings.Repeat("a", n)
}

// short answers the beginning of s.
func short(s string) string {
	return s[:min(len(s), 60)]
}

// show answers all that stands in t, and nothing of how it is kept.
func show(t api.Tree) string {
	var b strings.Builder
	for _, f := range t {
		fmt.Fprintf(&b, "%s=%q ", short(f.Path), short(string(f.Body)))
	}
	return b.String()
}

// showRules does so with rules.
func showRules(l []api.Rule) string {
	var b strings.Builder
	for _, r := range l {
		fmt.Fprintf(&b, "%d %q %q %q; ", r.Kind, short(r.Glob), short(r.Old), short(r.New))
	}
	return b.String()
}

// tell does so with changes.
func tell(l []api.Delta) string {
	var b strings.Builder
	for _, d := range l {
		fmt.Fprintf(&b, "%d %s=%q ", d.Kind, short(d.Path), short(string(d.Body)))
	}
	return b.String()
}

// path99 answers a path of 99 bytes below d.
func path99(d string) string {
	return d + strings.Repeat("/a", (99-len(d))/2)
}

func TestBody(t *testing.T) {
	for _, x := range []struct {
		r       api.Rule
		b, want string
	}{
		// tokens, as long as may be
		{of(api.Replace, "", "a", "b"), "a ab a", "b ab b"},
		{of(api.Replace, "", "a", "b"), "", ""}, {of(api.Replace, "", "a", "b"), "a", "b"}, {of(api.Replace, "", "a", "b"), "aa", "aa"}, {of(api.Replace, "", "aa", "b"), "aaa aa a", "aaa b a"},
		{of(api.Replace, "", "a", "b"), "_a a_ A a1 1a a.a a-a (a)[a]\ta\r\na", "_a a_ A a1 1a b.b b-b (b)[b]\tb\r\nb"},
		{of(api.Replace, "", "a", "b"), "\u00e9a\u00e9 \xffa\xff \x00a\x00", "\u00e9b\u00e9 \xffb\xff \x00b\x00"},
		{of(api.Replace, "", "A_9", ""), "A_9 a_9\nA_9\n.A_9.", " a_9\n\n.."},
		// what is new is not replaced again
		{of(api.Replace, "", "a", "a a"), "a a", "a a a a"}, {of(api.Replace, "", "a", "a"), "a a", "a a"}, {of(api.Replace, "", "a", ".a"), "-a-", "-.a-"},
		{of(api.Replace, "", "a", "x\ny"), "a-a\na", "x\ny-x\ny\nx\ny"}, {of(api.Replace, "", "a", "\n"), "a a", "\n \n"}, {of(api.Replace, "", "a", "\n\n"), "a\n", "\n\n\n"},
		// what is no token is nowhere
		{of(api.Replace, "", "", "b"), "a\n\n a", "a\n\n a"}, {of(api.Replace, "", "a b", "c"), "a b", "a b"}, {of(api.Replace, "", "-", "c"), "-", "-"}, {of(api.Replace, "", "\n", "c"), "\n", "\n"}, {of(api.Replace, "", "\u00e9", "c"), "\u00e9", "\u00e9"}, {of(api.Replace, "", "a\n", "c"), "a\n", "a\n"},
		{of(api.Replace, "", a(200), a(300)), a(200) + " " + a(199) + " " + a(201), a(300) + " " + a(199) + " " + a(201)},

		// lines that are gone
		{of(api.Strike, "", "x"), "", ""}, {of(api.Strike, "", "x"), "x", ""}, {of(api.Strike, "", "x"), "x\n", ""}, {of(api.Strike, "", "x"), "x\nx", ""}, {of(api.Strike, "", "x"), "x\ny", "y"}, {of(api.Strike, "", "x"), "y\nx", "y\n"}, {of(api.Strike, "", "x"), "y\nx\n", "y\n"}, {of(api.Strike, "", "x"), "a\nx\nb\nx\nx\nc\n", "a\nb\nc\n"},
		{of(api.Strike, "", "x"), "\nx\n\n", "\n\n"}, {of(api.Strike, "", "x"), " x\nx \nX\nxx\nx\r\n", " x\nx \nX\nxx\nx\r\n"}, {of(api.Strike, "", "x\r"), "x\r\nx\n", "x\n"},
		{of(api.Strike, "", ""), "", ""}, {of(api.Strike, "", ""), "\n", ""}, {of(api.Strike, "", ""), "\n\n\n", ""}, {of(api.Strike, "", ""), "a\n\nb", "a\nb"}, {of(api.Strike, "", ""), "\na", "a"}, {of(api.Strike, "", ""), "a\n", "a\n"}, {of(api.Strike, "", ""), " \n\n", " \n"},
		{of(api.Strike, "", "x", "y"), "x\ny\n", "y\n"}, {of(api.Strike, "", "x\ny"), "x\ny", "x\ny"}, {of(api.Strike, "", "x\n"), "x\n", "x\n"}, {of(api.Strike, "", "\n"), "\n\n", "\n\n"}, {of(api.Strike, "", "\xff\x00"), "\xff\x00\n\xff", "\xff"},
		{of(api.Strike, "", a(200)), a(200) + "\n" + a(199) + "\n" + a(201) + "\n" + a(200), a(199) + "\n" + a(201) + "\n"},

		// lines behind lines
		{of(api.Insert, "", "x", "n"), "", ""}, {of(api.Insert, "", "x", "n"), "x", "x\nn"}, {of(api.Insert, "", "x", "n"), "x\n", "x\nn\n"}, {of(api.Insert, "", "x", "n"), "x\nx", "x\nn\nx\nn"}, {of(api.Insert, "", "x", "n"), "x\nx\n", "x\nn\nx\nn\n"}, {of(api.Insert, "", "x", "n"), "x\ny", "x\nn\ny"}, {of(api.Insert, "", "x", "n"), "y\nx", "y\nx\nn"}, {of(api.Insert, "", "x", "n"), "a\nx\n\nb", "a\nx\nn\n\nb"},
		{of(api.Insert, "", "x", "n"), " x\nx \nX\nxx\nx\r\n", " x\nx \nX\nxx\nx\r\n"},
		{of(api.Insert, "", "x", ""), "x", "x\n"}, {of(api.Insert, "", "x", ""), "x\n", "x\n\n"}, {of(api.Insert, "", "x", ""), "x\nx", "x\n\nx\n"}, {of(api.Insert, "", "x", "x"), "x\nx", "x\nx\nx\nx"},
		{of(api.Insert, "", "", "n"), "", ""}, {of(api.Insert, "", "", "n"), "\n", "\nn\n"}, {of(api.Insert, "", "", "n"), "\n\n", "\nn\n\nn\n"}, {of(api.Insert, "", "", "n"), "\na", "\nn\na"}, {of(api.Insert, "", "", "n"), "a\n", "a\n"}, {of(api.Insert, "", "", ""), "\n", "\n\n"}, {of(api.Insert, "", "", ""), "a", "a"},
		{of(api.Insert, "", "x", "n\nm"), "x", "x\nn\nm"}, {of(api.Insert, "", "x", "n\n"), "x\nx", "x\nn\n\nx\nn\n"}, {of(api.Insert, "", "x", "\n"), "x", "x\n\n"}, {of(api.Insert, "", "x\ny", "n"), "x\ny", "x\ny"}, {of(api.Insert, "", "\n", "n"), "\n\n", "\n\n"},
		{of(api.Insert, "", a(200), a(300)), a(200) + "\n" + a(199), a(200) + "\n" + a(300) + "\n" + a(199)},

		// what is not of bodies
		{of(api.Rename, "**", "a", "b"), "a\na", "a\na"}, {of(api.Rename, "**", "", "b"), "", ""}, {of(api.Rename, "**", "", "b"), "a", "a"}, {of(api.Remove, "**"), "a\n", "a\n"}, {of(0, "**", "a", "b"), "a", "a"}, {of(6, "**", "a", "b"), "a", "a"}, {of(-1, "**", "a", "b"), "a", "a"}, {of(257, "**", "a", "b"), "a", "a"}, {of(1<<32+1, "**", "a", "b"), "a", "a"},
	} {
		for _, glob := range []string{"", "**", "[", "b"} { // the glob is not asked
			x.r.Glob = glob
			if got := rewrite.Body(x.r, []byte(x.b)); string(got) != x.want {
				t.Errorf("Body(%s%q) = %q, want %q", showRules(rules(x.r)), short(x.b), short(string(got)), short(x.want))
			}
		}
	}
	if b := rewrite.Body(of(api.Insert, "", "", "n"), nil); len(b) > 0 {
		t.Errorf("Body of nothing = %q", b)
	}
}

// TestBodyBytes asks for each byte: which are beside a token, which part one.
func TestBodyBytes(t *testing.T) {
	for i := range 256 {
		c := string([]byte{byte(i)})
		want := "x" + c + "x"
		if !strings.Contains(signs, c) {
			want = "new" + c + "new"
		}
		if got := rewrite.Body(of(api.Replace, "", "x", "new"), []byte("x"+c+"x")); string(got) != want {
			t.Errorf("Replace behind and ahead of %q: %q", c, got)
		}
		want = c + "\n" + c
		if c == "\n" {
			want = "\n\n\n" // no line is a line feed
		}
		if got := rewrite.Body(of(api.Insert, "", c, c), []byte(want[:1])); c != "\n" && string(got) != want {
			t.Errorf("Insert behind %q: %q", c, got)
		}
		if got := rewrite.Body(of(api.Strike, "", c), []byte(want)); c == "\n" && string(got) != want || c != "\n" && len(got) > 0 {
			t.Errorf("Strike of %q: %q", c, got)
		}
	}
}

func TestFile(t *testing.T) {
	for _, x := range []struct {
		l       []api.Rule
		f, want api.File
	}{
		{nil, file("a", "x"), file("a", "x")}, {nil, file("", "x"), file("", "x")}, {nil, file("a//b", ""), file("a//b", "")},
		// globs
		{rules(of(api.Replace, "*", "x", "y")), file("a", "x"), file("a", "y")}, {rules(of(api.Replace, "*", "x", "y")), file("a/b", "x"), file("a/b", "x")}, {rules(of(api.Replace, "a/*", "x", "y")), file("a/b", "x"), file("a/b", "y")}, {rules(of(api.Replace, "[", "x", "y")), file("a", "x"), file("a", "x")}, {rules(of(api.Replace, "", "x", "y")), file("", "x"), file("", "x")},
		{rules(of(api.Remove, "b"), of(api.Remove, "a/*"), of(api.Remove, "")), file("a", "x"), file("a", "x")},
		// one behind the other
		{rules(of(api.Replace, "**", "a", "b"), of(api.Replace, "**", "b", "c")), file("p", "a b"), file("p", "c c")}, {rules(of(api.Replace, "**", "b", "c"), of(api.Replace, "**", "a", "b")), file("p", "a b"), file("p", "b c")},
		{rules(of(api.Insert, "**", "a", "b"), of(api.Strike, "**", "a")), file("p", "a\nb"), file("p", "b\nb")}, {rules(of(api.Strike, "**", "a"), of(api.Insert, "**", "a", "b")), file("p", "a\nb"), file("p", "b")},
		{rules(of(api.Replace, "**", "a", "x\ny"), of(api.Strike, "**", "y b"), of(api.Insert, "**", "1 x", "2")), file("p", "1 a b\n"), file("p", "1 x\n2\n")},
		{rules(of(api.Insert, "**", "a", ""), of(api.Insert, "**", "", "b"), of(api.Strike, "**", "")), file("p", "a"), file("p", "a\n")},
		// the path as it is then
		{rules(of(api.Rename, "**", "a", "b"), of(api.Replace, "a", "x", "1"), of(api.Replace, "b", "x", "2")), file("a", "x"), file("b", "2")}, {rules(of(api.Replace, "a", "x", "1"), of(api.Rename, "**", "a", "b"), of(api.Replace, "b", "1", "2")), file("a", "x"), file("b", "2")},
		{rules(of(api.Rename, "**", "a", "b"), of(api.Rename, "**", "b", "c")), file("a", "x"), file("c", "x")}, {rules(of(api.Rename, "**", "b", "c"), of(api.Rename, "**", "a", "b")), file("a", "x"), file("b", "x")}, {rules(of(api.Rename, "**", "a", "b"), of(api.Rename, "**", "b", "a")), file("a", "x"), file("a", "x")}, {rules(of(api.Rename, "**", "a", "b"), of(api.Remove, "a")), file("a", "x"), file("b", "x")},
		{rules(of(api.Rename, "a/*", "a", "b")), file("a/x/y", ""), file("a/x/y", "")}, {rules(of(api.Rename, "b", "a", "b")), file("a", ""), file("a", "")},
		// what is Old, and what is below it
		{rules(of(api.Rename, "**", "a", "b/c")), file("a", ""), file("b/c", "")}, {rules(of(api.Rename, "**", "a", "b/c")), file("a/d/e", ""), file("b/c/d/e", "")}, {rules(of(api.Rename, "**", "a", "a/b")), file("a", ""), file("a/b", "")}, {rules(of(api.Rename, "**", "a", "a/b")), file("a/b", ""), file("a/b/b", "")}, {rules(of(api.Rename, "**", "a/b", "a")), file("a/b/a/b/c", ""), file("a/a/b/c", "")}, {rules(of(api.Rename, "**", "a", "a")), file("a/b", ""), file("a/b", "")},
		{rules(of(api.Rename, "**", "a", "b")), file("ab/c", ""), file("ab/c", "")}, {rules(of(api.Rename, "**", "a", "b")), file("a.x", ""), file("a.x", "")}, {rules(of(api.Rename, "**", "a", "b")), file("x/a", ""), file("x/a", "")}, {rules(of(api.Rename, "**", "a", "b")), file("x/a/c", ""), file("x/a/c", "")}, {rules(of(api.Rename, "**", "a/b", "c")), file("a", ""), file("a", "")}, {rules(of(api.Rename, "**", "a/b", "c")), file("a/bc", ""), file("a/bc", "")},
		{rules(of(api.Rename, "**", "a", path99("b")[:97])), file("a/c", ""), file(path99("b")[:97]+"/c", "")}, {rules(of(api.Rename, "**", "a", path99("b")[:97])), file("a/cd", ""), file(path99("b")[:97]+"/cd", "")},
		// rules that may not be
		{rules(of(api.Rename, "**", "", "b")), file("a", ""), file("a", "")}, {rules(of(api.Rename, "**", "a", "")), file("a/b", ""), file("b", "")}, {rules(of(api.Rename, "**", "a/", "b")), file("a/b", ""), file("a/b", "")}, {rules(of(api.Rename, "**", "a", "b//")), file("a", "x"), file("b//", "x")}, {rules(of(api.Rename, "**", "a", ""), of(api.Remove, "**")), file("a", "x"), file("", "x")},
		{rules(of(api.Replace, "**", "x-y", "z")), file("a", "x-y"), file("a", "x-y")}, {rules(of(9, "**", "x", "y"), of(0, "**", "x", "y"), of(-4, "**", "a", "b")), file("a", "x"), file("a", "x")}, {rules(of(api.Strike, "**", "x", "y")), file("a", "x\ny"), file("a", "y")},
		// a path that may not be matches nothing
		{rules(of(api.Remove, "**"), of(api.Rename, "**", "a", "b"), of(api.Replace, "**", "x", "y")), file("a//b", "x"), file("a//b", "x")}, {rules(of(api.Rename, "**", "a", "b")), file("a/", "x"), file("a/", "x")}, {rules(of(api.Rename, "**", "", "b"), of(api.Remove, "**")), file("", "x"), file("", "x")},
	} {
		got, there, e := rewrite.File(x.l, x.f)
		if !there || e != api.OK || got.Path != x.want.Path || string(got.Body) != string(x.want.Body) {
			t.Errorf("File(%s%s) = %s, %t, %d", showRules(x.l), show(api.Tree{x.f}), show(api.Tree{got}), there, e)
		}
	}
}

// TestFileGone asks for files that rules remove, at once.
func TestFileGone(t *testing.T) {
	for _, x := range []struct {
		l []api.Rule
		f api.File
	}{
		{rules(of(api.Remove, "**")), file("a", "x")}, {rules(of(api.Remove, "a")), file("a", "")}, {rules(of(api.Remove, "b", "x", "y"), of(api.Remove, "a", "x", "y")), file("a", "")},
		{rules(of(api.Replace, "**", "x", "y"), of(api.Remove, "**"), of(api.Rename, "**", "a", path99("b"))), file("a/c", "x")}, {rules(of(api.Rename, "**", "a", "b"), of(api.Remove, "b")), file("a", "")}, {rules(of(api.Rename, "**", "a", "b"), of(api.Remove, "b/*")), file("a/c", "")},
		{rules(of(api.Remove, "**")), file("a", a(api.MaxBody+1))}, {rules(of(api.Insert, "**", a(api.MaxBody), "x"), of(api.Remove, "**")), file("a", a(api.MaxBody))},
	} {
		got, there, e := rewrite.File(x.l, x.f)
		if there || e != api.OK || got.Path != "" || len(got.Body) > 0 {
			t.Errorf("File(%s%s) = %s, %t, %d", showRules(x.l), show(api.Tree{x.f}), show(api.Tree{got}), there, e)
		}
		l, e := rewrite.Of(x.l, x.f)
		if want := fmt.Sprintf("3 %s=\"\" ", x.f.Path); e != api.OK || tell(l) != want {
			t.Errorf("Of(%s%s) = %s, %d", showRules(x.l), show(api.Tree{x.f}), tell(l), e)
		}
	}
}

// TestFileErrors asks File, and Of, for what may not become of a file.
func TestFileErrors(t *testing.T) {
	most := a(api.MaxBody)
	long := of(api.Rename, "**", "a", path99("b"))
	for _, x := range []struct {
		l    []api.Rule
		f    api.File
		want api.Errno
	}{
		{nil, file("a", most+"a"), api.ErrLong}, {nil, file("a//", most+"a"), api.ErrLong}, {rules(of(api.Remove, "b")), file("a", most+"a"), api.ErrLong},
		{rules(of(api.Replace, "**", "x", "xy")), file("a", most[:api.MaxBody-2]+".x"), api.ErrLong}, {rules(of(api.Insert, "**", "x", "")), file("a", most[:api.MaxBody-2]+"\nx"), api.ErrLong}, {rules(of(api.Insert, "**", most, "")), file("a", most), api.ErrLong},
		{rules(of(api.Rename, "**", "a", "b"), of(api.Insert, "b", "x", "y")), file("a", strings.Repeat("x\n", 32768)), api.ErrLong},
		{rules(long), file("a/c", ""), api.ErrPath}, {rules(long), file("a/c/d", ""), api.ErrPath}, {rules(long, of(api.Remove, "**")), file("a/c", ""), api.ErrPath}, {rules(of(api.Rename, "**", "a", path99("b")[:97])), file("a/cde", ""), api.ErrPath},
		{rules(of(api.Rename, "**", "a", path99("b")[:95]), of(api.Rename, "**", "b", "b/b/b")), file("a/c", ""), api.ErrPath},
		// at once, whatever the body is
		{rules(long), file("a/c", most+"a"), api.ErrPath}, {rules(of(api.Insert, "**", most, most), long), file("a/c", most), api.ErrPath},
		// rules that may not be
		{rules(of(api.Rename, "**", "a", "b/")), file("a/c", ""), api.ErrPath}, {rules(of(api.Rename, "**", "a", "..")), file("a/c", ""), api.ErrPath}, {rules(of(api.Rename, "**", "a", "/")), file("a/c", ""), api.ErrPath}, {rules(of(api.Rename, "**", "a", a(31))), file("a/c", ""), api.ErrPath}, {rules(of(api.Rename, "**", "a", "\u00e9")), file("a/c", ""), api.ErrPath}, {rules(of(api.Rename, "**", "a", a(1<<16))), file("a/c", ""), api.ErrPath},
	} {
		got, there, e := rewrite.File(x.l, x.f)
		if there || e != x.want || got.Path != "" || len(got.Body) > 0 {
			t.Errorf("File(%s%s) = %s, %t, %d, want %d", showRules(x.l), show(api.Tree{x.f}), show(api.Tree{got}), there, e, x.want)
		}
		if l, e := rewrite.Of(x.l, x.f); e != x.want || len(l) > 0 {
			t.Errorf("Of(%s%s) = %s, %d, want %d", showRules(x.l), show(api.Tree{x.f}), tell(l), e, x.want)
		}
	}
}

// TestFileBounds asks for bodies of each size about the limit, and for such as were above it meanwhile.
func TestFileBounds(t *testing.T) {
	for n := api.MaxBody - 4; n <= api.MaxBody+4; n++ {
		want := api.OK
		if n > api.MaxBody {
			want = api.ErrLong
		}
		for _, l := range [][]api.Rule{
			nil,
			rules(of(api.Replace, "**", "x", "y")),
			rules(of(api.Insert, "**", "x", a(99)), of(api.Strike, "**", a(99))),
			rules(of(api.Replace, "**", "x", a(100)), of(api.Replace, "**", a(100), "z")),
			rules(of(api.Replace, "**", "x", "x\n"), of(api.Strike, "**", ""), of(api.Insert, "**", "x", ""), of(api.Strike, "**", "")),
		} {
			f := file("p", "x\n"+strings.Repeat("-", n-5)+"\nx\n")
			got, there, e := rewrite.File(l, f)
			if e != want || there != (e == api.OK) || there && len(got.Body) != n {
				t.Errorf("%d bytes, %s: %d bytes, %t, %d", n, showRules(l), len(got.Body), there, e)
			}
		}
	}
	// longer than may be, but not behind all
	f := file("p", strings.Repeat("abc.", api.MaxBody/2))
	got, there, e := rewrite.File(rules(of(api.Replace, "**", "abc", "")), f)
	if !there || e != api.OK || string(got.Body) != strings.Repeat(".", api.MaxBody/2) {
		t.Errorf("%d bytes, %t, %d", len(got.Body), there, e)
	}
}

func TestOf(t *testing.T) {
	for _, x := range []struct {
		l    []api.Rule
		f    api.File
		want string
	}{
		{nil, file("a", "x"), ""}, {rules(of(api.Replace, "**", "y", "z")), file("a", "x"), ""}, {rules(of(api.Replace, "**", "x", "x")), file("a", "x"), ""}, {rules(of(api.Replace, "b", "x", "y")), file("a", "x"), ""}, {rules(of(api.Replace, "**", "x", "y"), of(api.Replace, "**", "y", "x")), file("a", "x"), ""}, {rules(of(api.Rename, "**", "a", "b"), of(api.Rename, "**", "b", "a")), file("a", "x"), ""}, {rules(of(api.Rename, "**", "a", "a")), file("a", "x"), ""}, {nil, api.File{}, ""}, {rules(of(api.Strike, "**", "")), file("a", ""), ""},
		{rules(of(api.Replace, "**", "x", "y")), file("a", "x"), `2 a="y" `}, {rules(of(api.Strike, "**", "x")), file("a", "x"), `2 a="" `}, {rules(of(api.Rename, "**", "a", "b"), of(api.Rename, "**", "b", "a"), of(api.Insert, "a", "x", "")), file("a", "x"), `2 a="x\n" `},
		{rules(of(api.Rename, "**", "a", "b")), file("a", "x"), `3 a="" 1 b="x" `}, {rules(of(api.Rename, "**", "a", "b")), file("a/c", ""), `3 a/c="" 1 b/c="" `}, {rules(of(api.Rename, "**", "b", "a"), of(api.Replace, "**", "x", "y")), file("b", "x"), `3 b="" 1 a="y" `}, {rules(of(api.Rename, "**", "a", "")), file("a", "x"), `3 a="" 1 ="x" `},
	} {
		if l, e := rewrite.Of(x.l, x.f); e != api.OK || tell(l) != x.want {
			t.Errorf("Of(%s%s) = %s, %d, want %s", showRules(x.l), show(api.Tree{x.f}), tell(l), e, x.want)
		}
	}
}

func TestTree(t *testing.T) {
	some := files("a/x=foo", "a/y=bar", "b=foo\n", "c=")
	for _, x := range []struct {
		l             []api.Rule
		t             api.Tree
		want, changed string
		idem          bool
	}{
		{nil, nil, "", "", true}, {nil, some, `a/x="foo" a/y="bar" b="foo\n" c="" `, "", true}, {rules(of(api.Remove, "**")), nil, "", "", true}, {rules(of(api.Remove, "**")), some, "", "a/x a/y b c", true}, {rules(of(api.Remove, "d/**"), of(api.Rename, "**", "d", "e")), some, `a/x="foo" a/y="bar" b="foo\n" c="" `, "", true},
		{rules(of(api.Replace, "**", "foo", "baz")), some, `a/x="baz" a/y="bar" b="baz\n" c="" `, "a/x b", true}, {rules(of(api.Replace, "**", "foo", "foo 1")), some, `a/x="foo 1" a/y="bar" b="foo 1\n" c="" `, "a/x b", false}, {rules(of(api.Replace, "**", "foo", "bar"), of(api.Replace, "a/*", "bar", "foo")), some, `a/x="foo" a/y="foo" b="bar\n" c="" `, "a/y b", true}, {rules(of(api.Replace, "a/*", "bar", "foo"), of(api.Replace, "**", "foo", "bar")), some, `a/x="bar" a/y="bar" b="bar\n" c="" `, "a/x b", true},
		{rules(of(api.Insert, "**", "foo", "bar")), some, `a/x="foo\nbar" a/y="bar" b="foo\nbar\n" c="" `, "a/x b", false}, {rules(of(api.Strike, "**", "foo")), some, `a/x="" a/y="bar" b="" c="" `, "a/x b", true}, {rules(of(api.Strike, "**", "")), some, `a/x="foo" a/y="bar" b="foo\n" c="" `, "", true},
		{rules(of(api.Replace, "**", "foo", "bar"), of(api.Strike, "**", "foo")), some, `a/x="bar" a/y="bar" b="bar\n" c="" `, "a/x b", true}, {rules(of(api.Replace, "**", "bar", "1"), of(api.Replace, "**", "foo", "bar")), some, `a/x="bar" a/y="1" b="bar\n" c="" `, "a/x a/y b", false},
		// by rising paths
		{rules(of(api.Rename, "**", "a", "d")), some, `b="foo\n" c="" d/x="foo" d/y="bar" `, "a/x a/y", true}, {rules(of(api.Rename, "**", "c", "0")), some, `0="" a/x="foo" a/y="bar" b="foo\n" `, "c", true}, {rules(of(api.Rename, "**", "b", "a")), files("b/x=1", "b/y=2"), `a/x="1" a/y="2" `, "b/x b/y", true},
		{rules(of(api.Rename, "**", "b", "t"), of(api.Rename, "**", "c", "b"), of(api.Rename, "**", "t", "c")), some, `a/x="foo" a/y="bar" b="" c="foo\n" `, "b c", false}, {rules(of(api.Rename, "**", "c", "d"), of(api.Rename, "**", "b", "c")), some, `a/x="foo" a/y="bar" c="foo\n" d="" `, "b c", false},
		{rules(of(api.Rename, "a/x", "a", "a/b")), some, `a/b/x="foo" a/y="bar" b="foo\n" c="" `, "a/x", true}, {rules(of(api.Rename, "**", "a", "a/b")), some, `a/b/x="foo" a/b/y="bar" b="foo\n" c="" `, "a/x a/y", false}, {rules(of(api.Rename, "**", "b", "b/c")), some, `a/x="foo" a/y="bar" b/c="foo\n" c="" `, "b", false},
		{rules(of(api.Rename, "**", "b", "a.x")), some, `a.x="foo\n" a/x="foo" a/y="bar" c="" `, "b", true}, {rules(of(api.Rename, "**", "b", "B")), some, `B="foo\n" a/x="foo" a/y="bar" c="" `, "b", true},
		// where one was there is room
		{rules(of(api.Remove, "c"), of(api.Rename, "b", "b", "c")), some, `a/x="foo" a/y="bar" c="foo\n" `, "b c", false}, {rules(of(api.Remove, "a/*"), of(api.Rename, "b", "b", "a")), some, `a="foo\n" c="" `, "a/x a/y b", true}, {rules(of(api.Rename, "a/x", "a/x", "d"), of(api.Remove, "a/*"), of(api.Rename, "d", "d", "a")), some, `a="foo" b="foo\n" c="" `, "a/x a/y", true},
	} {
		got, e := rewrite.Tree(x.l, x.t)
		if e != api.OK || show(got) != x.want {
			t.Errorf("Tree(%s%s) = %s, %d, want %s", showRules(x.l), show(x.t), show(got), e, x.want)
		}
		paths, e := rewrite.Changed(x.l, x.t)
		if e != api.OK || strings.Join(paths, " ") != x.changed {
			t.Errorf("Changed(%s%s) = %q, %d, want %s", showRules(x.l), show(x.t), paths, e, x.changed)
		}
		if rewrite.Idem(x.l, x.t) != x.idem {
			t.Errorf("Idem(%s%s) = %t", showRules(x.l), show(x.t), !x.idem)
		}
	}
}

// manyFiles answers a tree of n files of that body.
func manyFiles(n int, body string) api.Tree {
	var t api.Tree
	for i := range n {
		t = append(t, file(fmt.Sprintf("d/f%04d", i), body))
	}
	return t
}

// TestTreeErrors asks for errors, and that where several apply the first is told.
func TestTreeErrors(t *testing.T) {
	some := files("a/x=foo", "a/y=bar", "b=foo\n", "c=")
	path, long := of(api.Rename, "**", "a", path99("b")), of(api.Insert, "**", "foo", "")
	full := file("", a(api.MaxBody-4)+"\nfoo")
	nested, both := of(api.Rename, "**", "b", "a"), of(api.Rename, "**", "b", "c")
	wrong := of(api.Replace, "**", "-", "")
	of51 := make([]api.Rule, 0, 51)
	for range 51 {
		of51 = append(of51, of(api.Remove, "d"))
	}
	for _, x := range []struct {
		l             []api.Rule
		t             api.Tree
		tree, changed api.Errno
	}{
		// trees, and rules, that may not be
		{nil, files("b", "a"), api.ErrArg, api.ErrArg}, {nil, files("a", "a"), api.ErrArg, api.ErrArg}, {nil, files("a", "a/b"), api.ErrArg, api.ErrArg}, {nil, files("a//b"), api.ErrArg, api.ErrArg}, {nil, files(""), api.ErrArg, api.ErrArg}, {nil, files("a=" + a(api.MaxBody+1)), api.ErrArg, api.ErrArg}, {rules(of(api.Remove, "**")), manyFiles(1001, ""), api.ErrArg, api.ErrArg}, {nil, manyFiles(1000, ""), api.OK, api.OK},
		{rules(wrong), nil, api.ErrArg, api.ErrArg}, {rules(of(api.Remove, "**"), wrong), some, api.ErrArg, api.ErrArg}, {rules(of(9, "**")), some, api.ErrArg, api.ErrArg}, {rules(of(0, "**", "x", "y")), nil, api.ErrArg, api.ErrArg}, {rules(of(api.Remove, "[")), nil, api.ErrArg, api.ErrArg}, {rules(of(api.Rename, "**", "x", "")), nil, api.ErrArg, api.ErrArg}, {rules(of(api.Strike, "**", "x", "y")), nil, api.ErrArg, api.ErrArg}, {rules(of(api.Insert, "**", "x", a(101))), nil, api.ErrArg, api.ErrArg},
		{rules(wrong, path, both), some, api.ErrArg, api.ErrArg}, {of51, some, api.OK, api.OK},
		// of files, the first one
		{rules(path), some, api.ErrPath, api.ErrPath}, {rules(path, both), some, api.ErrPath, api.ErrPath}, {rules(of(api.Remove, "a/*"), path), some, api.OK, api.OK},
		{rules(long), api.Tree{file("a", string(full.Body)), file("b", "")}, api.ErrLong, api.ErrLong}, {rules(long, path), api.Tree{file("0", string(full.Body)), file("a/x", "")}, api.ErrLong, api.ErrLong}, {rules(long, path), api.Tree{file("a/x", ""), file("b", string(full.Body))}, api.ErrPath, api.ErrPath}, {rules(long, both), api.Tree{file("b", ""), file("c", string(full.Body))}, api.ErrLong, api.ErrLong},
		{rules(of(api.Insert, "**", "foo", ""), of(api.Replace, "**", "foo", "")), api.Tree{file("a", string(full.Body))}, api.OK, api.OK},
		// of what they come to
		{rules(both), some, api.ErrThere, api.OK}, {rules(of(api.Rename, "**", "a/x", "a/y")), some, api.ErrThere, api.OK}, {rules(of(api.Rename, "**", "c", "b")), some, api.ErrThere, api.OK}, {rules(of(api.Rename, "**", "a/x", "z"), of(api.Rename, "**", "b", "z")), some, api.ErrThere, api.OK}, {rules(of(api.Rename, "**", "b", "a")), files("a/x", "b/x"), api.ErrThere, api.OK},
		{rules(nested), some, api.ErrPath, api.OK}, {rules(of(api.Rename, "**", "c", "b/x")), some, api.ErrPath, api.OK}, {rules(of(api.Rename, "**", "b", "c/x/y")), some, api.ErrPath, api.OK}, {rules(of(api.Rename, "**", "b", "a")), files("a.x", "a/x/y", "b"), api.ErrPath, api.OK}, {rules(nested, of(api.Rename, "**", "a/x", "a/y")), some, api.ErrThere, api.OK}, {rules(of(api.Rename, "**", "a", "b")), some, api.ErrPath, api.OK}, {rules(of(api.Rename, "**", "a", "b"), both), some, api.ErrThere, api.OK},
	} {
		u, e := rewrite.Tree(x.l, x.t)
		if e != x.tree || e != api.OK && len(u) > 0 {
			t.Errorf("Tree(%s%s) = %s, %d, want %d", showRules(x.l), show(x.t), show(u), e, x.tree)
		}
		paths, e := rewrite.Changed(x.l, x.t)
		if e != x.changed || e != api.OK && len(paths) > 0 {
			t.Errorf("Changed(%s%s) = %q, %d, want %d", showRules(x.l), show(x.t), paths, e, x.changed)
		}
		if x.tree != api.OK && rewrite.Idem(x.l, x.t) {
			t.Errorf("Idem(%s%s) = true", showRules(x.l), show(x.t))
		}
	}
}

// TestIdemSecond asks for rules that tell an error the second time alone.
func TestIdemSecond(t *testing.T) {
	for _, x := range []struct {
		l []api.Rule
		t api.Tree
	}{
		{rules(of(api.Rename, "**", "a", "a/"+strings.Repeat("b/", 30)+"b")), files("a/c")},
		{rules(of(api.Insert, "**", "a", "a")), api.Tree{file("p", strings.Repeat("a\n", 16384))}},
		{rules(of(api.Rename, "c", "c", "d"), of(api.Rename, "b", "b", "c")), files("b", "c")},
	} {
		u, e := rewrite.Tree(x.l, x.t)
		if e != api.OK {
			t.Errorf("Tree(%s%s) = %d", showRules(x.l), show(x.t), e)
		}
		if _, e := rewrite.Tree(x.l, u); rewrite.Idem(x.l, x.t) {
			t.Errorf("Idem(%s%s) = true, though the second time tells %d", showRules(x.l), show(x.t), e)
		}
	}
}
