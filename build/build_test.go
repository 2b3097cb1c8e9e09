package build_test

import (
	"fmt"
	"slices"
	"strings"
	"testing"

	"quilter/api"
	"quilter/build"
)

// n20 is the longest name of a target.
var n20 = strings.Repeat("n", 20)

// p100 is the longest path.
var p100 = strings.Repeat(strings.Repeat("p", 24)+"/", 3) + strings.Repeat("p", 25)

// on answers a Target of that name, of files, and what it stands on; a text with a colon is of the latter.
func on(name string, l ...string) api.Target {
	t := api.Target{Name: name}
	for _, s := range l {
		if strings.Contains(s, ":") {
			t.Deps = append(t.Deps, s)
		} else {
			t.Srcs = append(t.Srcs, s)
		}
	}
	return t
}

// list answers those Targets.
func list(l ...api.Target) []api.Target {
	return l
}

// show answers all that stands in l, and nothing of how it is kept.
func show(l []api.Target) string {
	var all []string
	for _, t := range l {
		all = append(all, fmt.Sprintf("%q of %q on %q", t.Name, t.Srcs, t.Deps))
	}
	return strings.Join(all, "; ")
}

// short answers the beginning of s.
func short(s string) string {
	return s[:min(len(s), 80)]
}

// parsed asks that Parse tells just want.
func parsed(t *testing.T, dir string, s string, want []api.Target) {
	t.Helper()
	if l, e := build.Parse(dir, s); e != api.OK || show(l) != show(want) {
		t.Errorf("Parse(%q, %q) = %s, %d; want %s", dir, short(s), short(show(l)), e, short(show(want)))
	}
}

// refused asks that Parse tells that error, and nothing else.
func refused(t *testing.T, dir string, s string, want api.Errno) {
	t.Helper()
	if l, e := build.Parse(dir, s); e != want || len(l) != 0 {
		t.Errorf("Parse(%q, %q) = %s, %d; want error %d", short(dir), short(s), short(show(l)), e, want)
	}
}

func TestNamed(t *testing.T) {
	const may = "abcdefghijklmnopqrstuvwxyz0123456789_"
	for a := range 256 {
		first := string([]byte{byte(a)})
		right := strings.Contains(may, first)
		if build.Named(first) != right {
			t.Errorf("Named(%q) = %t", first, !right)
		}
		for b := range 256 {
			second := string([]byte{byte(b)})
			if build.Named(first+second) != (right && strings.Contains(may, second)) {
				t.Errorf("Named(%q) = %t", first+second, build.Named(first+second))
			}
		}
	}
	for n := range 1000 {
		if build.Named(strings.Repeat("a", n)) != (n >= 1 && n <= 20) {
			t.Errorf("Named of %d bytes = %t", n, n < 1 || n > 20)
		}
	}
	for i := range 20 {
		if s := n20[:i] + "-" + n20[i+1:]; build.Named(s) {
			t.Errorf("Named(%q) = true", s)
		}
	}
	for s, want := range map[string]bool{
		"_": true, "__": true, "_a": true, "a_": true, "0": true, "target": true, "src": true, "dep": true, may[:20]: true, may[17:]: true,
		"": false, "a b": false, " a": false, "a ": false, "a\n": false, "a#": false, "a.b": false, "a-b": false, "a/b": false, "a:b": false, ":a": false, "Ab": false, "aB": false, "*": false, "\u00e9": false, "a\x00": false, strings.Repeat("a", 1<<16): false,
	} {
		if build.Named(s) != want {
			t.Errorf("Named(%q) = %t", short(s), !want)
		}
	}
}

func TestParseTargets(t *testing.T) {
	for _, s := range []string{"", "\n", "\n\n\n", "   ", " \n  \n", "#", "#\n", "  # all\n", "# target X\n#wrong", "####"} {
		parsed(t, "d", s, nil)
		parsed(t, "", s, nil)
	}
	for _, s := range []string{"target x", "target x\n", "  target   x  ", "\n\n target x\n\n", "target x#", "target x# y", "target x # y # z\n", "#target y\ntarget x\n#target x", "# all\n\ntarget x"} {
		parsed(t, "d", s, list(on("d:x")))
		parsed(t, "", s, list(on(":x")))
		parsed(t, "a/b", s, list(on("a/b:x")))
	}
	for _, name := range []string{"target", "src", "dep", "_", "0", n20, "a_1"} {
		parsed(t, "d", "target "+name, list(on("d:"+name)))
	}
	// in order, not rising
	parsed(t, "d", "target b\ntarget a\ntarget c", list(on("d:b"), on("d:a"), on("d:c")))
	parsed(t, p100, "target "+n20, list(on(p100+":"+n20)))
}

func TestParseSrcsAndDeps(t *testing.T) {
	for s, want := range map[string][]api.Target{
		"target x\nsrc a.go":                                  list(on("d:x", "d/a.go")),
		"target x\n  src   a.go   # one":                      list(on("d:x", "d/a.go")),
		"target x\nsrc b/c.go":                                list(on("d:x", "d/b/c.go")),
		"target x\nsrc b\nsrc a\nsrc b":                       list(on("d:x", "d/b", "d/a", "d/b")),
		"target x\nsrc d/a":                                   list(on("d:x", "d/d/a")),
		"target x\nsrc src\nsrc dep\nsrc target":              list(on("d:x", "d/src", "d/dep", "d/target")),
		"target x\nsrc BUILD\nsrc ...\nsrc .a\nsrc -_.9Z":     list(on("d:x", "d/BUILD", "d/...", "d/.a", "d/-_.9Z")),
		"target x\nsrc a#b":                                   list(on("d:x", "d/a")),
		"target x\ndep :y":                                    list(on("d:x", "d:y")),
		"target x\ndep :x":                                    list(on("d:x", "d:x")),
		"target x\ndep d:y":                                   list(on("d:x", "d:y")),
		"target x\ndep lib/q:z":                               list(on("d:x", "lib/q:z")),
		"target x\ndep d/e:z":                                 list(on("d:x", "d/e:z")),
		"target x\ndep .../A-b_9.c:" + n20:                    list(on("d:x", ".../A-b_9.c:"+n20)),
		"target x\ndep " + p100 + ":y":                        list(on("d:x", p100+":y")),
		"target x\n dep :b # one\n\n dep :a\ndep d:b\ndep :b": list(on("d:x", "d:b", "d:a", "d:b", "d:b")),
		"target x\ndep :target\ndep :src\ndep src:dep":        list(on("d:x", "d:target", "d:src", "src:dep")),
		"target x\ndep :y#:z":                                 list(on("d:x", "d:y")),
		"target x\ndep :y\nsrc a\ndep :z\nsrc b":              list(on("d:x", "d/a", "d/b", "d:y", "d:z")),
		"target x\nsrc a\ntarget y\nsrc b\ndep :x\ntarget z\ntarget w\nsrc a\ndep b:y":     list(on("d:x", "d/a"), on("d:y", "d/b", "d:x"), on("d:z"), on("d:w", "d/a", "b:y")),
		"# all\ntarget x\n  src a.go # one\nsrc b/c.go\n dep :y\n\n dep lib/q:z\ntarget y": list(on("d:x", "d/a.go", "d/b/c.go", "d:y", "lib/q:z"), on("d:y")),
	} {
		parsed(t, "d", s, want)
		parsed(t, "d", s+"\n", want)
		parsed(t, "d", "\n# \n"+s+"  ", want)
	}
	// at the top
	parsed(t, "", "target x\nsrc a\nsrc b/c\ndep :x\ndep b:y", list(on(":x", "a", "b/c", ":x", "b:y")))
	parsed(t, "", "target x\nsrc "+p100, list(on(":x", p100)))
	// deep down; the longest files
	parsed(t, "a/b", "target x\nsrc c\ndep :y\ndep a:z", list(on("a/b:x", "a/b/c", "a/b:y", "a:z")))
	parsed(t, p100[:75]+"p", "target x\nsrc "+strings.Repeat("q", 23), list(on(p100[:75]+"p:x", p100[:75]+"p/"+strings.Repeat("q", 23))))
	parsed(t, "d", "target x\nsrc "+p100[2:], list(on("d:x", "d/"+p100[2:])))
	refused(t, "d", "target x\nsrc "+p100[1:], api.ErrLine)
	refused(t, p100, "target x\nsrc q", api.ErrLine)
	refused(t, "", "target x\nsrc "+p100+"q", api.ErrLine)
	parsed(t, "d", "target x\nsrc "+strings.Repeat("q", 30), list(on("d:x", "d/"+strings.Repeat("q", 30))))
	refused(t, "d", "target x\nsrc "+strings.Repeat("q", 31), api.ErrLine)
}

// wrongLines are such as tell nothing that there is, behind a target, too.
var wrongLines = []string{
	"target", "src", "dep", "target X", "target a b", "target t t", "target a-b", "target a.b", "target a/b", "target :a", "target d:a", "target a:", "target *", "target \u00e9", "target \xff", "target " + n20 + "n", "target # x", "target #x\n",
	"tar x", "Target x", "TARGET x", "targets x", "target: x", "target=x", "x target", "target:x", "rule x", "x", "x y", ":x", "a.go", "tgt", "# \nx", "\x00 x", "\xff x",
	"src a b", "src a a", "src ../a", "src ..", "src .", "src ./a", "src a/./b", "src a/../b", "src /a", "src /", "src a/", "src a//b", "src *.go", "src a:b", "src :a", "src a,b", "src \u00e9", "src \xff", "src a\\b", "src # a", "Src a", "srcs a", "src= a", "source a", "a src", "src a src b",
	"dep x", "dep a/x", "dep :", "dep a:", "dep ::", "dep :x:", "dep ::x", "dep a::x", "dep a:b:c", "dep a/:x", "dep /:x", "dep /a:x", "dep a//b:x", "dep ..:x", "dep .:x", "dep ./a:x", "dep a/../b:x", "dep :X", "dep :a-b", "dep :a.b", "dep a:B", "dep a:b/c", "dep :*", "dep *:a", "dep a,b:c", "dep \u00e9:a", "dep \xff:a", "dep a:\xff",
	"dep :x :y", "dep a :x", "dep a: x", "dep : x", "dep :" + n20 + "n", "dep " + p100 + "p:x", "dep " + strings.Repeat("q", 31) + ":x", "dep # :x", "Dep :x", "deps :x", "dep= :x", "depends :x", ":x dep", "dep dep :x",
	"target\tx", "\ttarget x", "target x\t", "target \tx", "\t", "target x\r", "\r", "src\ta", "src a\r", "src a\tb", "dep :x\r", "dep\t:x", "\f", "\v", "target\u00a0x", "\u00a0", "\u2003target x", "\u0085", "target x\x00",
}

func TestParseWrong(t *testing.T) {
	for _, s := range wrongLines {
		for _, text := range []string{s, s + "\n", "\n" + s, "target t\n" + s, "target t\nsrc a\ndep :y\n" + s + "\nsrc b", s + "\ntarget t", "target t\n" + s + "\n" + s, "  " + s + "  ", "target t\n" + s + "# a"} {
			refused(t, "d", text, api.ErrLine)
			refused(t, "", text, api.ErrLine)
		}
		// it is not, where it is a remark
		parsed(t, "d", "#"+strings.ReplaceAll(s, "\n", "\n#"), nil)
	}
	for _, s := range []string{"src a", "dep :x", "dep a:x", "src a\ntarget x", "dep :x\ntarget x", "# target x\nsrc a", "\n\nsrc a", "#\ndep :x\ntarget x\nsrc a"} {
		refused(t, "d", s, api.ErrLine)
		refused(t, "", s, api.ErrLine)
		parsed(t, "d", "target t\n"+strings.ReplaceAll(s, "target x", ""), behind(s))
	}
}

// behind answers the Target t of d, with what the lines of s lay to it.
func behind(s string) []api.Target {
	l := list(on("d:t"))
	for line := range strings.SplitSeq(s, "\n") {
		switch line {
		case "src a":
			l[0].Srcs = append(l[0].Srcs, "d/a")
		case "dep :x":
			l[0].Deps = append(l[0].Deps, "d:x")
		case "dep a:x":
			l[0].Deps = append(l[0].Deps, "a:x")
		}
	}
	return l
}

func TestParseTwice(t *testing.T) {
	for _, dir := range []string{"", "d", "a/b"} {
		for _, s := range []string{"target x\ntarget x", "target x\nsrc a\ndep :x\n\n  target   x # again\n", "target y\ntarget x\ntarget z\ntarget x", "target x\ntarget y\ntarget y\ntarget x", "target " + n20 + "\ntarget " + n20} {
			refused(t, dir, s, api.ErrTwice)
		}
	}
	parsed(t, "d", "target x\n#target x\ntarget xx\ntarget x_", list(on("d:x"), on("d:xx"), on("d:x_")))
	// what one call read is not there for the next one
	parsed(t, "d", "target x", list(on("d:x")))
	parsed(t, "d", "target x", list(on("d:x")))
	// line by line: the first one that may not be tells its error
	refused(t, "d", "target x\ntarget x\ntarget X", api.ErrTwice)
	refused(t, "d", "target x\ntarget x\nsrc ..", api.ErrTwice)
	refused(t, "d", "target x\nsrc ..\ntarget x", api.ErrLine)
	refused(t, "d", "target X\ntarget x\ntarget x", api.ErrLine)
	refused(t, "d", "src a\ntarget x\ntarget x", api.ErrLine)
	refused(t, "d", "target x\ntarget x y", api.ErrLine)
	refused(t, "d", "target X\ntarget X", api.ErrLine)
}

func TestParseErrorsInOrder(t *testing.T) {
	const most = 1 << 14
	long := strings.Repeat("\n", most+1)
	for _, dir := range []string{"/", "d/", "/d", "a//b", ".", "..", "a/..", "./a", "a b", " ", "d:x", ":", "*", "\u00e9", "\xff", "\x00", p100 + "p", strings.Repeat("q", 31), strings.Repeat("a/", 1<<16)} {
		for _, s := range []string{"", "target x", "target X", "target x\ntarget x", "src a", long, "X" + long} {
			refused(t, dir, s, api.ErrPath)
		}
	}
	for _, dir := range []string{"", "d", p100} {
		for _, s := range []string{long, "X" + long, "target x\ntarget x" + long, "src a" + long, strings.Repeat("target x\n", most), strings.Repeat("X", most+1), strings.Repeat("#", most+1), strings.Repeat(" ", 1<<20)} {
			refused(t, dir, s, api.ErrLong)
		}
		for _, s := range []string{long[1:], strings.Repeat(" ", most), strings.Repeat("#", most)} {
			parsed(t, dir, s, nil)
		}
		parsed(t, dir, strings.Repeat(" ", most-8)+"target x", list(on(dir+":x")))
		refused(t, dir, strings.Repeat("X", most), api.ErrLine)
	}
}

// TestParseMany parses texts of as many lines as there may be.
func TestParseMany(t *testing.T) {
	const most = 1 << 14
	var b strings.Builder
	var want []api.Target
	for i := 0; b.Len()+len("target 0000\n") <= most; i++ {
		fmt.Fprintf(&b, "target %04d\n", i)
		want = append(want, on(fmt.Sprintf("d:%04d", i)))
	}
	parsed(t, "d", b.String(), want)
	n := (most - len("target x\n")) / len("src a\n")
	l, e := build.Parse("d", "target x\n"+strings.Repeat("src a\n", n))
	if e != api.OK || len(l) != 1 || len(l[0].Srcs) != n || len(l[0].Deps) != 0 || l[0].Srcs[n-1] != "d/a" {
		t.Errorf("Parse of %d files: %s, %d", n, short(show(l)), e)
	}
	n = (most - len("target x\n")) / len("dep :a\n")
	l, e = build.Parse("d", "target x\n"+strings.Repeat("dep :a\n", n))
	if e != api.OK || len(l) != 1 || len(l[0].Deps) != n || len(l[0].Srcs) != 0 || l[0].Deps[n-1] != "d:a" {
		t.Errorf("Parse of %d deps: %s, %d", n, short(show(l)), e)
	}
}

func TestPrint(t *testing.T) {
	for _, x := range []struct {
		l    []api.Target
		want string
	}{
		{nil, ""},
		{[]api.Target{}, ""},
		{list(on("d:x")), "target x\n"},
		{list(on(":x")), "target x\n"},
		{list(on("a/b:" + n20)), "target " + n20 + "\n"},
		{list(on("d:x", "d/a.go", "d/b/c.go", "d:y", "lib/q:z"), on("d:y")), "target x\n  src a.go\n  src b/c.go\n  dep d:y\n  dep lib/q:z\ntarget y\n"},
		{list(on(":x", "a", "b/c", ":x", "b:y")), "target x\n  src a\n  src b/c\n  dep :x\n  dep b:y\n"},
		{list(on("d:b"), on("d:a"), on("d:c", "d/d/a")), "target b\ntarget a\ntarget c\n  src d/a\n"},
		{list(on("d:x", "d/b", "d/a", "d/b", "d:z", "d:y", "d:z")), "target x\n  src b\n  src a\n  src b\n  dep d:z\n  dep d:y\n  dep d:z\n"},
		// what is not under its directory
		{list(on("d:x", "a", "dd/a", "d", "e/d/a", "D/a")), "target x\n  src a\n  src dd/a\n  src d\n  src e/d/a\n  src D/a\n"},
		{list(on("a/b:x", "a/c", "a/b", "a/b/c", "a/bb/c", "b/c")), "target x\n  src a/c\n  src a/b\n  src c\n  src a/bb/c\n  src b/c\n"},
		{list(on(":x", "a/b"), on("a:x", "a/b"), on("a/b:x", "a/b/c")), "target x\n  src a/b\ntarget x\n  src b\ntarget x\n  src c\n"},
		// what no text tells
		{list(on("d:x", "d/", "d//a", "")), "target x\n  src \n  src /a\n  src \n"},
		{list(on(":x", "/a", "/")), "target x\n  src /a\n  src /\n"},
		{list(on("d:X y", "d/a b", "d/#", "::")), "target X y\n  src a b\n  src #\n  dep ::\n"},
		{list(api.Target{Name: "d:x", Deps: []string{"", "y", "d/y"}}), "target x\n  dep \n  dep y\n  dep d/y\n"},
		{list(on("d:")), "target \n"},
	} {
		if s := build.Print(x.l); s != x.want {
			t.Errorf("Print(%s) = %q; want %q", show(x.l), s, x.want)
		}
	}
}

// TestThereAndBack reads what was written, and writes what was read.
func TestThereAndBack(t *testing.T) {
	for _, dir := range []string{"", "d", "a/b", p100[:49]} {
		in := func(s string) string {
			if dir == "" {
				return s
			}
			return dir + "/" + s
		}
		parts := []string{in("a"), in("b/c.go"), in("a/a"), in("BUILD"), dir + ":a", dir + ":" + n20, "lib/q:z", p100 + ":y"}
		for mask := range 1 << len(parts) {
			var l []string
			for i, s := range parts {
				if mask>>i&1 == 1 {
					l = append(l, s)
				}
			}
			reversed := slices.Clone(l)
			slices.Reverse(reversed)
			all := list(on(dir+":b", l...), on(dir+":a"), on(dir+":c", reversed...), on(dir+":d", append(l, l...)...))
			s := build.Print(all)
			back, e := build.Parse(dir, s)
			if e != api.OK || show(back) != show(all) || !build.Same(back, all) {
				t.Fatalf("Parse(%q, Print(%s)) = %s, %d", dir, show(all), show(back), e)
			}
			if again := build.Print(back); again != s {
				t.Fatalf("Print of Parse(%q) = %q", s, again)
			}
		}
	}
}

func TestOf(t *testing.T) {
	l := list(on("d:x", "d/a", "d/b"), on("d:y", "d/b", "d/b", "d:x"), on("e:z", "e/a", "d/b"), on("a:w"), on("d:x", "d/b"))
	for s, want := range map[string]string{"d/a": "d:x", "d/b": "d:x d:y e:z d:x", "e/a": "e:z", "a": "", "b": "", "": "", "d": "", "d/": "", "D/a": "", "d/a ": "", "d:x": "", "e:z": ""} {
		if got := build.Of(l, s); strings.Join(got, " ") != want {
			t.Errorf("Of(%q) = %q; want %q", s, got, want)
		}
	}
	if got := build.Of(nil, "a"); len(got) != 0 {
		t.Errorf("Of nothing = %q", got)
	}
	// any text, and any name
	odd := list(api.Target{Srcs: []string{""}}, api.Target{Name: "\xff", Srcs: []string{"a b", "", "\xff"}})
	if got := build.Of(odd, ""); !slices.Equal(got, []string{"", "\xff"}) {
		t.Errorf("Of nothing = %q", got)
	}
	if got := build.Of(odd, "\xff"); !slices.Equal(got, []string{"\xff"}) {
		t.Errorf("Of that byte = %q", got)
	}
}

func TestPlace(t *testing.T) {
	l := list(on("d:x", "d/a", "d:y"), on("d:z"), on(":x"), on("d:z"), on("d:y"), on("d:x"))
	for name, want := range map[string]int{"d:x": 0, "d:z": 1, ":x": 2, "d:y": 4, "": -1, "x": -1, "d": -1, "d:": -1, "d/a": -1, "D:x": -1, "d:xx": -1, "dd:x": -1, "d:x ": -1} {
		if got := build.Place(l, name); got != want {
			t.Errorf("Place of %q = %d; want %d", name, got, want)
		}
	}
	if got := build.Place(nil, ""); got != -1 {
		t.Errorf("Place in nothing = %d", got)
	}
	if got := build.Place(list(on("a"), on("")), ""); got != 1 {
		t.Errorf("Place of no name = %d", got)
	}
}

func TestSame(t *testing.T) {
	parts := []api.Target{on(""), on("d:x"), on("d:y"), on("d:x", "a"), on("d:x", ":a"), on("d:x", "a", ":a"), on("d:x", "a", "b"), on("d:x", "b", "a"), on("d:x", "a", "a"), on("d:x", ":a", ":b"), on("d:x", ":b", ":a"), {Name: "d:x", Srcs: []string{""}}, {Name: "d:x", Deps: []string{""}}, {Name: "d:x", Deps: []string{"a"}}, {Name: "d:x", Srcs: []string{"ab"}}}
	rows := [][]api.Target{nil}
	for _, a := range parts {
		rows = append(rows, list(a))
		for _, b := range parts {
			rows = append(rows, list(a, b))
		}
	}
	for _, a := range rows {
		for _, b := range rows {
			if build.Same(a, b) != (show(a) == show(b)) {
				t.Fatalf("Same(%s, %s) = %t", show(a), show(b), build.Same(a, b))
			}
		}
	}
	// a list that is nil and one that is empty are the same
	empty := list(api.Target{Name: "d:x", Srcs: []string{}, Deps: []string{}})
	if !build.Same(nil, []api.Target{}) || !build.Same([]api.Target{}, nil) || !build.Same(empty, list(on("d:x"))) || !build.Same(list(on("d:x")), empty) || build.Same(empty, nil) || build.Same(nil, empty) {
		t.Error("Same of nil and of empty lists")
	}
}
