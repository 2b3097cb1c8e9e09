package owners_test

import (
	"math/rand"
	"regexp"
	"slices"
	"strings"
	"testing"

	"quilter/api"
	"quilter/owners"
)

// The forms of lines, as patterns of another language.
var (
	named     = regexp.MustCompile(`\A[a-z0-9-]{1,20}\z`)
	emptyLine = regexp.MustCompile(`\A *\z`)
	setLine   = regexp.MustCompile(`\A *set +noparent *\z`)
	nameLine  = regexp.MustCompile(`\A *([a-z0-9-]{1,20}) *\z`)
	fileLine  = regexp.MustCompile(`\A *per-file +([A-Za-z0-9._*?-]{1,30})((?: +[a-z0-9-]{1,20})+) *\z`)
)

// plainGlob tells whether g, of bytes that it may have, is a glob.
func plainGlob(g string) bool {
	return g == "**" || g != "." && g != ".." && !strings.Contains(g, "**")
}

// plainParse says the chapter's words over again.
func plainParse(s string) (api.Owners, api.Errno) {
	if len(s) > 16384 {
		return api.Owners{}, api.ErrLong
	}
	var o api.Owners
	for _, line := range strings.Split(s, "\n") {
		if i := strings.Index(line, "#"); i >= 0 {
			line = line[:i]
		}
		if emptyLine.MatchString(line) {
			continue
		}
		if setLine.MatchString(line) {
			o.NoParent = true
		} else if m := nameLine.FindStringSubmatch(line); m != nil {
			o.Lines = append(o.Lines, of(m[1]))
		} else if m := fileLine.FindStringSubmatch(line); m != nil && plainGlob(m[1]) {
			o.Lines = append(o.Lines, per(m[1], strings.Fields(m[2])...))
		} else {
			return api.Owners{}, api.ErrLine
		}
	}
	return o, api.OK
}

// plainOf says the chapter's words over again, of an s that is a path.
func plainOf(t api.Tree, s string) ([]string, api.Errno) {
	names := strings.Split(s, "/")
	last := names[len(names)-1]
	var l []string
	for n := len(names) - 1; n >= 0; n-- {
		file := strings.Join(append(slices.Clone(names[:n]), "OWNERS"), "/")
		i := slices.IndexFunc(t, func(f api.File) bool { return f.Path == file })
		if i < 0 {
			continue
		}
		o, e := plainParse(string(t[i].Body))
		if e != api.OK {
			return nil, e
		}
		for _, x := range o.Lines {
			if x.Glob == "" || n == len(names)-1 && plainFits(x.Glob, last) {
				l = append(l, x.Owners...)
			}
		}
		if o.NoParent {
			break
		}
	}
	slices.Sort(l)
	return slices.Compact(l), api.OK
}

// plainFits tells whether the name s fits the glob g, by a pattern of another language.
func plainFits(g string, s string) bool {
	form := strings.NewReplacer(`\*`, `.*`, `\?`, `.`).Replace(regexp.QuoteMeta(g))
	return regexp.MustCompile(`\A(?:` + form + `)\z`).MatchString(s)
}

// parses asks it, and holds it against the plain words; there and back, too.
func parses(t *testing.T, s string) bool {
	t.Helper()
	want, e := plainParse(s)
	o, got := owners.Parse(s)
	if got != e || show(o) != show(want) || got != api.OK && !nothing(o) {
		t.Errorf("Parse(%q) = %s, %d; want %s, %d", s, show(o), got, show(want), e)
		return false
	}
	if back, again := owners.Parse(owners.Print(o)); again != api.OK || !owners.Same(back, o) || show(back) != show(o) {
		t.Errorf("Parse of Print(%s) = %s, %d", show(o), show(back), again)
		return false
	}
	return true
}

// TestAllShortTexts holds all texts of a few pieces against the plain words.
func TestAllShortTexts(t *testing.T) {
	pieces := []string{"set", "noparent", "per-file", " ", "\n", "#", "a", "*", ".", "/", "A"}
	rows := []string{""}
	for begin, deep := 0, 0; deep < 5; deep++ {
		end := len(rows)
		for _, row := range rows[begin:end] {
			for _, p := range pieces {
				rows = append(rows, row+p)
			}
		}
		begin = end
	}
	for _, s := range rows {
		if !parses(t, s) {
			return
		}
	}
}

// TestAllShortLines holds all lines of a few words against the plain words, a blank between, or two, with a line ahead and one behind.
func TestAllShortLines(t *testing.T) {
	words := []string{"set", "noparent", "per-file", "a", "b-0", n20, n20 + "n", "*", "**", "***", "*.go", "..", "x/y", "A", "#", "#a", "a#", "\t", "\xff"}
	rows := [][]string{nil}
	for begin, deep := 0, 0; deep < 4; deep++ {
		end := len(rows)
		for _, row := range rows[begin:end] {
			for _, w := range words {
				rows = append(rows, append(slices.Clip(row), w))
			}
		}
		begin = end
	}
	for _, row := range rows {
		if !parses(t, strings.Join(row, " ")) || len(row) < 4 && !parses(t, "b\n "+strings.Join(row, "  ")+" \nset noparent") {
			return
		}
	}
}

// drawnName answers a name, now and then one that may not be.
func drawnName(r *rand.Rand) string {
	switch r.Intn(60) {
	case 0:
		return []string{"Ann", "a.b", "a_b", n20 + "n", "\u00e9", "a\tb"}[r.Intn(6)]
	case 1:
		return []string{n20, "set", "noparent", "per-file", "-", "0"}[r.Intn(6)]
	}
	return []string{"ann", "bob", "cy", "dan", "eve", "go-1"}[r.Intn(6)]
}

// drawnLine answers a line, now and then one that may not be.
func drawnLine(r *rand.Rand) string {
	var words []string
	switch r.Intn(12) {
	case 0:
		words = []string{"set", "noparent"}
	case 1, 2, 3, 4:
		globs := []string{"*", "**", "*.go", "?", "x.*", "?.go", "x", "x.go", "OWNERS", "*x*"}
		if r.Intn(20) == 0 {
			globs = []string{"***", "a/b", ".", "[x]"}
		}
		words = []string{"per-file", globs[r.Intn(len(globs))]}
		for range 1 + r.Intn(4) {
			words = append(words, drawnName(r))
		}
	case 5:
	default:
		words = []string{drawnName(r)}
	}
	line := strings.Repeat(" ", r.Intn(3)) + strings.Join(words, strings.Repeat(" ", 1+r.Intn(2))) + strings.Repeat(" ", r.Intn(2))
	if r.Intn(5) == 0 {
		line += "# " + drawnName(r)
	}
	return line
}

// drawnText answers a text of a few lines; now and then a byte of it is another one.
func drawnText(r *rand.Rand) string {
	var l []string
	for range r.Intn(5) {
		l = append(l, drawnLine(r))
	}
	b := []byte(strings.Join(l, "\n"))
	if len(b) > 0 && r.Intn(25) == 0 {
		b[r.Intn(len(b))] = byte(r.Intn(256))
	}
	return string(b)
}

func TestDrawnTexts(t *testing.T) {
	r := rand.New(rand.NewSource(1))
	right := 0
	for range 50000 {
		s := drawnText(r)
		if !parses(t, s) {
			return
		}
		if _, e := owners.Parse(s); e == api.OK {
			right++
		}
	}
	if right < 10000 || right > 49000 {
		t.Errorf("%d of the texts are right", right)
	}
}

// asks asks whose s is, and holds it against the plain words.
func asks(t *testing.T, l api.Tree, s string) bool {
	t.Helper()
	want, e := plainOf(l, s)
	got, f := owners.Of(l, s)
	if f != e || !slices.Equal(got, want) {
		t.Errorf("Of(%v, %q) = %q, %d; want %q, %d", l, s, got, f, want, e)
		return false
	}
	return true
}

// TestAllSmallTrees holds all trees of a few OWNERS files against the plain words.
func TestAllSmallTrees(t *testing.T) {
	bodies := []string{"-", "", "ann", "bob\nann", "set noparent", "cy\nset noparent", "per-file x ann", "per-file *.go bob cy\ndan", "set noparent\nper-file ? eve", "Wrong", strings.Repeat("\n", 1<<14+1)}
	dirs := []string{"OWNERS", "a/OWNERS", "a/b/OWNERS"}
	var all func(l api.Tree, dirs []string) bool
	all = func(l api.Tree, dirs []string) bool {
		if len(dirs) == 0 {
			for _, s := range []string{"x", "y.go", "a", "a/x", "a/y.go", "a/b", "a/b/x", "a/b/y.go", "a/b/c/x", "a/c/x", "b/x", "a/b/OWNERS"} {
				if !asks(t, l, s) {
					return false
				}
			}
			return true
		}
		for _, body := range bodies {
			with := slices.Clip(l)
			if body != "-" { // that one stands for no file
				with = append(with, api.File{Path: dirs[0], Body: []byte(body)})
			}
			if !all(with, dirs[1:]) {
				return false
			}
		}
		return true
	}
	all(nil, dirs)
}

// TestDrawnTrees holds drawn trees against the plain words; some are such as may not be.
func TestDrawnTrees(t *testing.T) {
	r := rand.New(rand.NewSource(2))
	dirs := []string{"", "a/", "a/b/", "a/b/c/", "a/b/c/d/", "b/", "b/a/", "aa/"}
	names := []string{"x", "x.go", "y.go", "OWNERS", "BUILD", "b"}
	for range 10000 {
		var l api.Tree
		for range r.Intn(8) {
			name := "OWNERS"
			if r.Intn(6) == 0 {
				name = names[r.Intn(len(names))]
			}
			l = append(l, api.File{Path: dirs[r.Intn(len(dirs))] + name, Body: []byte(drawnText(r))})
		}
		for range 5 {
			if !asks(t, l, dirs[r.Intn(len(dirs))]+names[r.Intn(len(names))]) {
				return
			}
		}
	}
}

// TestPlainNamed holds what may be a name against the pattern.
func TestPlainNamed(t *testing.T) {
	r := rand.New(rand.NewSource(3))
	for range 50000 {
		b := make([]byte, r.Intn(24))
		for i := range b {
			b[i] = "abcdefghijklmnopqrstuvwxyz0123456789-"[r.Intn(37)]
		}
		if len(b) > 0 && r.Intn(3) == 0 {
			b[r.Intn(len(b))] = byte(r.Intn(256))
		}
		if s := string(b); owners.Named(s) != named.MatchString(s) {
			t.Fatalf("Named(%q) = %t", s, owners.Named(s))
		}
	}
}

// drawnBytes answers any bytes, mostly such as texts have.
func drawnBytes(r *rand.Rand, n int) string {
	b := make([]byte, r.Intn(n))
	for i := range b {
		b[i] = "ab-*#/\n\n  .A"[r.Intn(12)]
		if r.Intn(10) == 0 {
			b[i] = byte(r.Intn(256))
		}
	}
	return string(b)
}

// TestAnyInput hands everything in everywhere: each call ends, and none panics.
func TestAnyInput(t *testing.T) {
	r := rand.New(rand.NewSource(4))
	for range 20000 {
		s := drawnBytes(r, 30)
		if r.Intn(1000) == 0 {
			s = drawnBytes(r, 40000)
		}
		if !parses(t, s) {
			return
		}
		l := api.Tree{{Path: "OWNERS", Body: []byte(s)}, {Path: "a/OWNERS", Body: []byte(s)}, {Path: drawnBytes(r, 10), Body: []byte(s)}}
		if got, e := owners.Of(l, s); e != api.OK && len(got) > 0 {
			t.Errorf("Of(%q, %q) = %q, %d", l, s, got, e)
		}
		asks(t, l, "a/x")
		// what no text tells is printed, too
		o := api.Owners{NoParent: r.Intn(2) == 0, Lines: []api.Line{per(drawnBytes(r, 3), s, drawnBytes(r, 5)), per(s), {}}}
		if !owners.Same(o, deep(o)) || o.NoParent != strings.HasPrefix(owners.Print(o), "set noparent\n") {
			t.Errorf("Print(%s) = %q", show(o), owners.Print(o))
		}
	}
}
