package build_test

import (
	"math/rand"
	"regexp"
	"slices"
	"strings"
	"testing"

	"quilter/api"
	"quilter/build"
)

// The forms of lines, as patterns of another language.
var (
	named      = regexp.MustCompile(`\A[a-z0-9_]{1,20}\z`)
	pathForm   = regexp.MustCompile(`\A[A-Za-z0-9._-]{1,30}(?:/[A-Za-z0-9._-]{1,30})*\z`)
	dotName    = regexp.MustCompile(`(?:\A|/)\.\.?(?:/|\z)`)
	emptyLine  = regexp.MustCompile(`\A *\z`)
	targetLine = regexp.MustCompile(`\A *target +([a-z0-9_]{1,20}) *\z`)
	srcLine    = regexp.MustCompile(`\A *src +([^ ]+) *\z`)
	depLine    = regexp.MustCompile(`\A *dep +([^ :]*):([a-z0-9_]{1,20}) *\z`)
)

// plainPath tells whether s is a path.
func plainPath(s string) bool {
	return len(s) <= 100 && pathForm.MatchString(s) && !dotName.MatchString(s)
}

// plainJoin answers s as it is told within dir.
func plainJoin(dir string, s string) string {
	if dir == "" {
		return s
	}
	return dir + "/" + s
}

// plainParse says the chapter's words over again.
func plainParse(dir string, s string) ([]api.Target, api.Errno) {
	if dir != "" && !plainPath(dir) {
		return nil, api.ErrPath
	}
	if len(s) > 16384 {
		return nil, api.ErrLong
	}
	var l []api.Target
	for _, line := range strings.Split(s, "\n") {
		if i := strings.Index(line, "#"); i >= 0 {
			line = line[:i]
		}
		if emptyLine.MatchString(line) {
			continue
		}
		last := len(l) - 1
		if m := targetLine.FindStringSubmatch(line); m != nil {
			for _, t := range l {
				if t.Name == dir+":"+m[1] {
					return nil, api.ErrTwice
				}
			}
			l = append(l, api.Target{Name: dir + ":" + m[1]})
		} else if m := srcLine.FindStringSubmatch(line); m != nil && last >= 0 && plainPath(plainJoin(dir, m[1])) {
			l[last].Srcs = append(l[last].Srcs, plainJoin(dir, m[1]))
		} else if m := depLine.FindStringSubmatch(line); m != nil && last >= 0 && m[1] == "" {
			l[last].Deps = append(l[last].Deps, dir+":"+m[2])
		} else if m != nil && last >= 0 && plainPath(m[1]) {
			l[last].Deps = append(l[last].Deps, m[1]+":"+m[2])
		} else {
			return nil, api.ErrLine
		}
	}
	return l, api.OK
}

// plainAll says the chapter's words over again.
func plainAll(t api.Tree) ([]api.Target, api.Errno) {
	var l []api.Target
	for _, f := range t {
		names := strings.Split(f.Path, "/")
		if names[len(names)-1] != "BUILD" {
			continue
		}
		more, e := plainParse(strings.Join(names[:len(names)-1], "/"), string(f.Body))
		if e != api.OK {
			return nil, e
		}
		l = append(l, more...)
	}
	for i, a := range l {
		for _, b := range l[:i] {
			if a.Name == b.Name {
				return nil, api.ErrTwice
			}
		}
	}
	for _, a := range l {
		for _, d := range a.Deps {
			if plainPlace(l, d) < 0 {
				return nil, api.ErrDep
			}
		}
	}
	var rising []api.Target
	for len(l) > 0 {
		least := 0
		for i := range l {
			if l[i].Name < l[least].Name {
				least = i
			}
		}
		rising = append(rising, l[least])
		l = slices.Delete(slices.Clone(l), least, least+1)
	}
	return rising, api.OK
}

// plainPlace says the chapter's words over again.
func plainPlace(l []api.Target, name string) int {
	for i := range l {
		if l[i].Name == name {
			return i
		}
	}
	return -1
}

// plainOf says the chapter's words over again.
func plainOf(l []api.Target, s string) []string {
	var names []string
	for _, t := range l {
		for i, x := range t.Srcs {
			if x == s && !slices.Contains(t.Srcs[:i], s) {
				names = append(names, t.Name)
			}
		}
	}
	return names
}

// plainPrint says the chapter's words over again, of names with one colon.
func plainPrint(l []api.Target) string {
	s := ""
	for _, t := range l {
		parts := strings.Split(t.Name, ":")
		s += "target " + parts[1] + "\n"
		for _, x := range t.Srcs {
			if parts[0] != "" {
				x = strings.TrimPrefix(x, parts[0]+"/")
			}
			s += "  src " + x + "\n"
		}
		for _, d := range t.Deps {
			s += "  dep " + d + "\n"
		}
	}
	return s
}

// parses asks it, and holds it against the plain words; there and back, too.
func parses(t *testing.T, dir string, s string) bool {
	t.Helper()
	want, e := plainParse(dir, s)
	l, got := build.Parse(dir, s)
	if got != e || show(l) != show(want) || got != api.OK && len(l) > 0 {
		t.Errorf("Parse(%q, %q) = %s, %d; want %s, %d", dir, s, show(l), got, show(want), e)
		return false
	}
	if e != api.OK {
		return true
	}
	text := build.Print(l)
	if text != plainPrint(want) {
		t.Errorf("Print(%s) = %q; want %q", show(l), text, plainPrint(want))
		return false
	}
	if back, again := build.Parse(dir, text); len(text) <= 16384 && (again != api.OK || !build.Same(back, l) || show(back) != show(l)) {
		t.Errorf("Parse(%q, Print(%s)) = %s, %d", dir, show(l), show(back), again)
		return false
	}
	return true
}

// TestAllShortTexts holds all texts of a few pieces against the plain words.
func TestAllShortTexts(t *testing.T) {
	pieces := []string{"target a\n", "target", "src", "dep", " ", "\n", "#", ":", "a", "/", ".", "A"}
	rows := []string{""}
	for begin, deep := 0, 0; deep < 5; deep++ {
		end := len(rows)
		for _, row := range rows[begin:end] {
			for _, p := range pieces {
				rows = append(rows, row+p)
			}
		}
		begin = end
	}
	for i, s := range rows {
		if !parses(t, []string{"", "d"}[i%2], s) || !parses(t, []string{"d", ""}[i%2], "target x\nsrc "+s) || !parses(t, []string{"d", ""}[i%2], "target x\ndep "+s) {
			return
		}
	}
}

// TestAllShortLines holds all lines of a few words against the plain words, a blank between, or two, with a target ahead, or none.
func TestAllShortLines(t *testing.T) {
	words := []string{"target", "src", "dep", "a", "b_0", n20, n20 + "n", ":", ":a", "a:", "a:a", "a/b:a", "a:b:c", "a/b.go", "..", "/a", "a/", "A", "#", "#a", "a#", "\t", "\xff", p100, p100 + ":a", p100[1:]}
	rows := [][]string{nil}
	for begin, deep := 0, 0; deep < 3; deep++ {
		end := len(rows)
		for _, row := range rows[begin:end] {
			for _, w := range words {
				rows = append(rows, append(slices.Clip(row), w))
			}
		}
		begin = end
	}
	for _, dir := range []string{"", "d", "d/e.f", p100} {
		for _, row := range rows {
			if !parses(t, dir, strings.Join(row, " ")) || !parses(t, dir, "target t\n "+strings.Join(row, "  ")+" \nsrc x") {
				return
			}
		}
	}
}

// drawnName answers a name, now and then one that may not be.
func drawnName(r *rand.Rand) string {
	switch r.Intn(60) {
	case 0:
		return []string{"Lib", "a.b", "a-b", n20 + "n", "\u00e9", "a\tb"}[r.Intn(6)]
	case 1:
		return []string{n20, "target", "src", "dep", "_", "0"}[r.Intn(6)]
	}
	return []string{"lib", "bin", "x", "y", "z", "go_1"}[r.Intn(6)]
}

// drawnPath answers a path, now and then one that may not be.
func drawnPath(r *rand.Rand) string {
	var names []string
	for range 1 + r.Intn(3) {
		names = append(names, []string{"a", "b", "d", "x.go", "y_-.c", "BUILD"}[r.Intn(6)])
	}
	if r.Intn(30) == 0 {
		names[r.Intn(len(names))] = []string{"", ".", "..", "*", strings.Repeat("q", 31), "a:b", "a,"}[r.Intn(7)]
	}
	return strings.Join(names, "/")
}

// drawnLine answers a line, now and then one that may not be.
func drawnLine(r *rand.Rand) string {
	var words []string
	switch r.Intn(8) {
	case 0, 1, 2:
		words = []string{"target", drawnName(r)}
	case 3, 4:
		words = []string{"src", drawnPath(r)}
	case 5:
		words = []string{"dep", ":" + drawnName(r)}
	case 6:
		words = []string{"dep", drawnPath(r) + ":" + drawnName(r)}
	}
	if r.Intn(60) == 0 {
		words = append(words, drawnName(r))
	}
	line := strings.Repeat(" ", r.Intn(3)) + strings.Join(words, strings.Repeat(" ", 1+r.Intn(2))) + strings.Repeat(" ", r.Intn(2))
	if r.Intn(5) == 0 {
		line += "# " + drawnName(r)
	}
	return line
}

// drawnText answers a text of a few lines, mostly with a target ahead; now and then a byte of it is another one.
func drawnText(r *rand.Rand) string {
	var l []string
	if r.Intn(20) > 0 {
		l = append(l, "target "+drawnName(r))
	}
	for range r.Intn(6) {
		l = append(l, drawnLine(r))
	}
	b := []byte(strings.Join(l, "\n"))
	if len(b) > 0 && r.Intn(25) == 0 {
		b[r.Intn(len(b))] = byte(r.Intn(256))
	}
	return string(b)
}

func TestDrawnTexts(t *testing.T) {
	r := rand.New(rand.NewSource(1))
	right := 0
	for range 50000 {
		s := drawnText(r)
		dir := []string{"", "d", "a/b", drawnPath(r)}[r.Intn(4)]
		if !parses(t, dir, s) {
			return
		}
		if _, e := build.Parse(dir, s); e == api.OK {
			right++
		}
	}
	if right < 10000 || right > 45000 {
		t.Errorf("%d of the texts are right", right)
	}
}

// told asks what t tells, and of which files, and holds it against the plain words.
func told(t *testing.T, tree api.Tree) bool {
	t.Helper()
	want, e := plainAll(tree)
	l, got := build.All(tree)
	if got != e || show(l) != show(want) || got != api.OK && len(l) > 0 {
		t.Errorf("All(%s) = %s, %d; want %s, %d", showTree(tree), show(l), got, show(want), e)
		return false
	}
	for _, s := range []string{"a", "b", "a/x", "a/b/x", "x", "d/a"} {
		if names := build.Of(l, s); !slices.Equal(names, plainOf(want, s)) {
			t.Errorf("Of(%s, %q) = %q", show(l), s, names)
			return false
		}
	}
	for _, name := range []string{":x", "a:x", "a/b:x", "a:lib", "b:y", "x"} {
		if i := build.Place(l, name); i != plainPlace(want, name) {
			t.Errorf("Place(%s, %q) = %d", show(l), name, i)
			return false
		}
	}
	return true
}

// TestAllSmallTrees holds all trees of a few BUILD files against the plain words.
func TestAllSmallTrees(t *testing.T) {
	bodies := []string{"-", "", "target x", "target y\nsrc x\ntarget x\nsrc b/x", "target x\ndep :x\ndep a:x", "target x\ndep a/b:y\nsrc x", "target y\ndep :z\ntarget z", "target x\ndep :nobody", "target x\ntarget x", "Wrong", strings.Repeat("\n", 1<<14+1)}
	places := []string{"BUILD", "a/BUILD", "a/b/BUILD", "a/BUILD"}
	var all func(l api.Tree, places []string) bool
	all = func(l api.Tree, places []string) bool {
		if len(places) == 0 {
			return told(t, l)
		}
		for _, body := range bodies {
			with := slices.Clip(l)
			if body != "-" { // that one stands for no file
				with = append(with, api.File{Path: places[0], Body: []byte(body)})
			}
			if !all(with, places[1:]) {
				return false
			}
		}
		return true
	}
	all(nil, places)
}

// drawnBody answers a text of targets that stand on x and y of some directories; now and then any one.
func drawnBody(r *rand.Rand) string {
	if r.Intn(12) == 0 {
		return drawnText(r)
	}
	lines := []string{"src a", "src x", "src b/x", "dep :x", "dep :y", "dep d:x", "dep a:y", "dep a/b:x", "dep a/x.go:x", "# src c"}
	var l []string
	for _, name := range r.Perm(4)[:2+r.Intn(2)] {
		l = append(l, "target "+[]string{"y", "x", "z", "lib"}[name])
		for range r.Intn(3) {
			l = append(l, lines[r.Intn(len(lines))])
		}
	}
	return strings.Join(l, "\n")
}

// TestDrawnTrees holds drawn trees against the plain words; some are such as may not be.
func TestDrawnTrees(t *testing.T) {
	r := rand.New(rand.NewSource(2))
	dirs := []string{"", "a/", "a/b/", "d/", "a/x.go/"}
	right := 0
	for range 20000 {
		var l api.Tree
		for _, i := range r.Perm(len(dirs))[:1+r.Intn(len(dirs))] {
			l = append(l, api.File{Path: dirs[i] + "BUILD", Body: []byte(drawnBody(r))})
		}
		if r.Intn(20) == 0 {
			l = append(l, api.File{Path: dirs[r.Intn(len(dirs))] + "BUILD", Body: []byte("target z")})
		}
		if r.Intn(4) == 0 {
			l = append(l, api.File{Path: "other", Body: []byte(drawnText(r))})
		}
		if !told(t, l) {
			return
		}
		if _, e := build.All(l); e == api.OK {
			right++
		}
	}
	if right < 3000 || right > 15000 {
		t.Errorf("%d of the trees are right", right)
	}
}

// TestPlainNamed holds what may be a name against the pattern.
func TestPlainNamed(t *testing.T) {
	r := rand.New(rand.NewSource(3))
	for range 50000 {
		b := make([]byte, r.Intn(24))
		for i := range b {
			b[i] = "abcdefghijklmnopqrstuvwxyz0123456789_"[r.Intn(37)]
		}
		if len(b) > 0 && r.Intn(3) == 0 {
			b[r.Intn(len(b))] = byte(r.Intn(256))
		}
		if s := string(b); build.Named(s) != named.MatchString(s) {
			t.Fatalf("Named(%q) = %t", s, build.Named(s))
		}
	}
}

// drawnBytes answers any bytes, mostly such as texts have.
func drawnBytes(r *rand.Rand, n int) string {
	b := make([]byte, r.Intn(n))
	for i := range b {
		b[i] = "ab_:#/\n\n  .A"[r.Intn(12)]
		if r.Intn(10) == 0 {
			b[i] = byte(r.Intn(256))
		}
	}
	return string(b)
}

// TestAnyInput hands everything in everywhere: each call ends, and none panics.
func TestAnyInput(t *testing.T) {
	r := rand.New(rand.NewSource(4))
	for range 20000 {
		s, dir := drawnBytes(r, 30), drawnBytes(r, 4)
		if r.Intn(1000) == 0 {
			s, dir = drawnBytes(r, 40000), drawnBytes(r, 300)
		}
		if !parses(t, dir, s) || !parses(t, "d", "target a\nsrc a\ndep :b\n"+s) {
			return
		}
		if !told(t, api.Tree{{Path: dir + "/BUILD", Body: []byte(s)}, {Path: s, Body: []byte(dir)}, {Path: "BUILD", Body: []byte("target a")}}) {
			return
		}
		// what no text tells is printed, too
		l := list(api.Target{Name: s, Srcs: []string{dir, s, dir + "/" + s, ""}, Deps: []string{s, dir, ""}}, api.Target{}, api.Target{Name: dir, Srcs: []string{s}}, api.Target{Name: dir + ":" + s, Srcs: []string{dir, dir + "/", dir + "/" + s, "/"}})
		if text := build.Print(l); !strings.HasPrefix(text, "target ") || !strings.Contains(text, "\ntarget \n") {
			t.Errorf("Print(%s) = %q", show(l), text)
		}
		if !build.Same(l, deep(l)) || build.Place(l, s) != plainPlace(l, s) || !slices.Equal(build.Of(l, s), plainOf(l, s)) {
			t.Errorf("Same, Place or Of of %s", show(l))
		}
	}
}
