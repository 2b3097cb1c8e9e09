package owners_test

import (
	"fmt"
	"slices"
	"strings"
	"testing"

	"quilter/api"
	"quilter/owners"
)

// n20 is the longest name.
var n20 = strings.Repeat("n", 20)

// of is a line of some names, without a glob.
func of(names ...string) api.Line {
	return api.Line{Owners: names}
}

// per is a line of a glob.
func per(glob string, names ...string) api.Line {
	return api.Line{Glob: glob, Owners: names}
}

// open answers what asks the parent, too; closed what does not.
func open(l ...api.Line) api.Owners {
	return api.Owners{Lines: l}
}

func closed(l ...api.Line) api.Owners {
	return api.Owners{NoParent: true, Lines: l}
}

// show answers all that stands in o, and nothing of how it is kept.
func show(o api.Owners) string {
	l := []string{fmt.Sprint(o.NoParent)}
	for _, x := range o.Lines {
		l = append(l, fmt.Sprintf("%q:%q", x.Glob, x.Owners))
	}
	return strings.Join(l, " ")
}

// nothing tells whether each field of o is nought.
func nothing(o api.Owners) bool {
	return show(o) == "false"
}

// short answers the beginning of s.
func short(s string) string {
	return s[:min(len(s), 60)]
}

func TestNamed(t *testing.T) {
	const may = "abcdefghijklmnopqrstuvwxyz0123456789-"
	for a := range 256 {
		first := string([]byte{byte(a)})
		right := strings.Contains(may, first)
		if owners.Named(first) != right {
			t.Errorf("Named(%q) = %t", first, !right)
		}
		for b := range 256 {
			second := string([]byte{byte(b)})
			if owners.Named(first+second) != (right && strings.Contains(may, second)) {
				t.Errorf("Named(%q) = %t", first+second, owners.Named(first+second))
			}
		}
	}
	for n := range 1000 {
		if owners.Named(strings.Repeat("a", n)) != (n >= 1 && n <= 20) {
			t.Errorf("Named of %d bytes = %t", n, n < 1 || n > 20)
		}
	}
	for i := range 20 {
		if s := n20[:i] + "." + n20[i+1:]; owners.Named(s) {
			t.Errorf("Named(%q) = true", s)
		}
	}
	for s, want := range map[string]bool{
		"-": true, "--": true, "-a": true, "a-": true, "0": true, "set": true, "noparent": true, "per-file": true, may[:20]: true, may[17:]: true,
		"set noparent": false, "a b": false, " a": false, "a ": false, "a\n": false, "a#": false, "a.b": false, "a_b": false, "a/b": false, "Ab": false, "aB": false, "*": false, "?": false, "\u00e9": false, "a\x00": false, strings.Repeat("a", 1<<16): false,
	} {
		if owners.Named(s) != want {
			t.Errorf("Named(%q) = %t", short(s), !want)
		}
	}
}

func TestParse(t *testing.T) {
	for s, want := range map[string]api.Owners{
		"": open(), "\n": open(), "\n\n\n": open(), "   ": open(), " \n  \n": open(), "#": open(), "#\n": open(), "  # all\n": open(), "# Wrong\n#Wrong": open(), "####": open(),
		// a name alone
		"ann": open(of("ann")), "ann\n": open(of("ann")), "  ann  ": open(of("ann")), "\n\n ann\n\n": open(of("ann")), "-": open(of("-")), "0": open(of("0")), n20: open(of(n20)),
		"ann\nbob": open(of("ann"), of("bob")), "bob\nann\nbob\n": open(of("bob"), of("ann"), of("bob")),
		"set": open(of("set")), "noparent": open(of("noparent")), "per-file": open(of("per-file")), "set\nnoparent": open(of("set"), of("noparent")),
		// set noparent
		"set noparent": closed(), "set noparent\n": closed(), "  set   noparent  ": closed(), "set noparent\nset noparent": closed(),
		"set noparent\nann": closed(of("ann")), "ann\nset noparent": closed(of("ann")), "ann\nset noparent\nbob\n": closed(of("ann"), of("bob")),
		// per-file
		"per-file *.go bob": open(per("*.go", "bob")), "per-file *.go bob cy": open(per("*.go", "bob", "cy")), "per-file x bob bob ann bob": open(per("x", "bob", "bob", "ann", "bob")),
		"  per-file   *   a    b  ": open(per("*", "a", "b")), "per-file * a\nper-file * b\nper-file * a": open(per("*", "a"), per("*", "b"), per("*", "a")),
		"per-file ** a": open(per("**", "a")), "per-file ? a": open(per("?", "a")), "per-file *?*.?* a": open(per("*?*.?*", "a")), "per-file A_b-C.9 a": open(per("A_b-C.9", "a")), "per-file OWNERS a": open(per("OWNERS", "a")),
		"per-file ... a": open(per("...", "a")), "per-file .* a": open(per(".*", "a")), "per-file " + strings.Repeat("*a", 15) + " a": open(per(strings.Repeat("*a", 15), "a")),
		"per-file per-file per-file": open(per("per-file", "per-file")), "per-file set noparent": open(per("set", "noparent")), "per-file a set noparent": open(per("a", "set", "noparent")), "per-file a " + n20: open(per("a", n20)),
		"per-file *.go bob\nann\nset noparent\nper-file *.c ann bob": closed(per("*.go", "bob"), of("ann"), per("*.c", "ann", "bob")),
		// remarks
		"ann#": open(of("ann")), "ann#bob": open(of("ann")), "ann # bob # cy\nbob": open(of("ann"), of("bob")), "#ann\nbob": open(of("bob")), "set noparent# a": closed(), "set # noparent": open(of("set")),
		"per-file # a": open(of("per-file")), "per-file *.go a# b": open(per("*.go", "a")), "per-file *.go a #b c\n": open(per("*.go", "a")), "a#\tX\x00\xff": open(of("a")),
		"# all\nset noparent\nann # one\n\n  per-file *.go bob cy\nbob": closed(of("ann"), per("*.go", "bob", "cy"), of("bob")),
	} {
		if o, e := owners.Parse(s); e != api.OK || show(o) != show(want) {
			t.Errorf("Parse(%q) = %s, %d; want %s", s, show(o), e, show(want))
		}
	}
}

// wrongLines are such as tell nothing that there is.
var wrongLines = []string{
	"Ann", "a b", "ann bob", "ann.bob", "ann_bob", "a/b", "*", "*.go", n20 + "n", "\u00e9", "\xff", "\x00",
	"set noparent x", "set noparent noparent", "set set noparent", "x set noparent", "Set noparent", "set Noparent", "set no parent", "set noparents", "sets noparent", "noparent set", "set parent", "set x", "set-noparent x",
	"per-file *.go", "per-file a", "per-file a/b x", "per-file **/a x", "per-file /a x", "per-file a/ x", "per-file / x", "per-file *** x", "per-file a** x", "per-file **a x", "per-file . x", "per-file .. x", "per-file [a] x", "per-file a,b x",
	"per-file \u00e9 x", "per-file \xff x", "per-file " + strings.Repeat("g", 31) + " x", "per-file " + strings.Repeat("*a", 15) + "* x", "per-file * X", "per-file * a B", "per-file * A b", "per-file * a B c", "per-file * *", "per-file * a *.go", "per-file * a " + n20 + "n",
	"Per-file * a", "per-files * a", "per_file * a", "perfile * a", "x per-file * a", "per-file=* a", "per-file #* a b\nper-file *", "*.go a", "a *.go b", "per-file *.go # a",
	"a\tb", "\ta", "a\t", "\t", "a\r", "\r", "set\tnoparent", "set noparent\r", "per-file\t*\ta", "per-file *\ta b", "a\vb", "\f", "a\u00a0", "\u0085", "\u2028", "\u2003a",
}

func TestParseWrong(t *testing.T) {
	for _, s := range wrongLines {
		for _, text := range []string{s, s + "\n", "\n" + s, "set noparent\nann\n" + s, s + "\nann\nset noparent", "ann\nper-file * a\n" + s + "\nbob", s + "\n" + s, s + "# ann", "  " + s + "  "} {
			if o, e := owners.Parse(text); e != api.ErrLine || !nothing(o) {
				t.Errorf("Parse(%q) = %s, %d; want ErrLine", text, show(o), e)
			}
		}
		// it is not, where it is a remark
		if text := "#" + strings.ReplaceAll(s, "\n", "\n#"); !strings.Contains(s, "#") {
			if o, e := owners.Parse(text); e != api.OK || !nothing(o) {
				t.Errorf("Parse(%q) = %s, %d", text, show(o), e)
			}
		}
	}
}

func TestParseLong(t *testing.T) {
	const most = 1 << 14
	for name, s := range map[string]string{"lines": strings.Repeat("\n", most), "blanks": strings.Repeat(" ", most), "a remark": strings.Repeat("#", most), "blanks, a name": strings.Repeat(" ", most-3) + "ann"} {
		want := 0
		if strings.HasSuffix(s, "ann") {
			want = 1
		}
		if o, e := owners.Parse(s); e != api.OK || len(o.Lines) != want || o.NoParent {
			t.Errorf("Parse of %s = %s, %d", name, show(o), e)
		}
		if o, e := owners.Parse(s + "\n"); e != api.ErrLong || !nothing(o) {
			t.Errorf("Parse of %s, and one more = %s, %d", name, show(o), e)
		}
	}
	if o, e := owners.Parse(strings.Repeat("a\n", most/2)); e != api.OK || len(o.Lines) != most/2 {
		t.Errorf("Parse of many names: %d lines, %d", len(o.Lines), e)
	}
	if o, e := owners.Parse("per-file *" + strings.Repeat(" a", (most-10)/2)); e != api.OK || len(o.Lines) != 1 || len(o.Lines[0].Owners) != (most-10)/2 {
		t.Errorf("Parse of many names of a glob: %d lines, %d", len(o.Lines), e)
	}
	if o, e := owners.Parse(strings.Repeat("X", most)); e != api.ErrLine || !nothing(o) {
		t.Errorf("Parse of a wrong line = %s, %d", show(o), e)
	}
	// what is too long is so first, whatever its lines are
	for _, s := range []string{strings.Repeat("X", most+1), "set noparent\nann\n" + strings.Repeat("\n", most), strings.Repeat("a b\n", most), strings.Repeat("ann\n", 1<<18)} {
		if o, e := owners.Parse(s); e != api.ErrLong || !nothing(o) {
			t.Errorf("Parse of %d bytes %q = %s, %d", len(s), short(s), show(o), e)
		}
	}
}

func TestPrint(t *testing.T) {
	for _, x := range []struct {
		o    api.Owners
		want string
	}{
		{open(), ""},
		{api.Owners{Lines: []api.Line{}}, ""},
		{closed(), "set noparent\n"},
		{open(of("ann")), "ann\n"},
		{open(of("ann", "bob")), "ann\nbob\n"},
		{open(of("bob"), of("ann"), of("bob")), "bob\nann\nbob\n"},
		{closed(of("ann"), per("*.go", "bob", "cy"), of("bob")), "set noparent\nann\nper-file *.go bob cy\nbob\n"},
		{open(per("*", "a")), "per-file * a\n"},
		{open(per("a?", "b", "a", "b")), "per-file a? b a b\n"},
		{closed(per("x", "a"), per("x", "a")), "set noparent\nper-file x a\nper-file x a\n"},
		// what no text tells
		{open(of()), ""},
		{open(of(), per("*"), of("a")), "per-file *\na\n"},
		{open(of("")), "\n"},
		{open(of("", "a", "")), "\na\n\n"},
		{open(per("*", "")), "per-file * \n"},
		{open(per("*", "", "a")), "per-file *  a\n"},
		{open(of("A b#", "\n")), "A b#\n\n\n"},
		{open(per("a/b c", "X y", "\xff")), "per-file a/b c X y \xff\n"},
		{open(of("set noparent")), "set noparent\n"},
	} {
		if s := owners.Print(x.o); s != x.want {
			t.Errorf("Print(%s) = %q; want %q", show(x.o), s, x.want)
		}
	}
}

// lines answers such as a text may tell, and one of several names without a glob.
func lines() []api.Line {
	return []api.Line{of("ann"), of("bob"), of("set"), of("noparent"), of("per-file"), of(n20), of("a", "b"), of(), per("*", "ann"), per("*.go", "bob", "ann"), per("**", "set", "noparent"), per("per-file", "per-file"), per("?", "b", "b")}
}

// some answers all Owners of at most so many of these lines.
func some(l []api.Line, most int) []api.Owners {
	rows := [][]api.Line{nil}
	for begin := 0; most > 0; most-- {
		end := len(rows)
		for _, row := range rows[begin:end] {
			for _, x := range l {
				rows = append(rows, append(slices.Clip(row), x))
			}
		}
		begin = end
	}
	var all []api.Owners
	for _, row := range rows {
		all = append(all, open(row...), closed(row...))
	}
	return all
}

// apart answers o with a line for each name that stands without a glob.
func apart(o api.Owners) api.Owners {
	p := api.Owners{NoParent: o.NoParent}
	for _, l := range o.Lines {
		if l.Glob != "" {
			p.Lines = append(p.Lines, l)
			continue
		}
		for _, name := range l.Owners {
			p.Lines = append(p.Lines, of(name))
		}
	}
	return p
}

// TestThereAndBack reads what was written, and writes what was read.
func TestThereAndBack(t *testing.T) {
	for _, o := range some(lines(), 3) {
		s := owners.Print(o)
		back, e := owners.Parse(s)
		if e != api.OK || !owners.Same(back, apart(o)) || show(back) != show(apart(o)) {
			t.Fatalf("Parse of Print(%s) = %s, %d", show(o), show(back), e)
		}
		if again := owners.Print(back); again != s {
			t.Fatalf("Print of Parse(%q) = %q", s, again)
		}
	}
}

func TestSame(t *testing.T) {
	all := some(append(lines(), of("ann", ""), of(""), of("ann", "ann"), per("*"), per("*", "ann", "bob"), per("*", "bob", "ann"), of("a b")), 1)
	all = append(all, some([]api.Line{of("a"), of("b"), of("a", "b"), per("*", "a"), per("a")}, 3)...)
	for _, a := range all {
		for _, b := range all {
			if owners.Same(a, b) != (show(a) == show(b)) {
				t.Fatalf("Same(%s, %s) = %t", show(a), show(b), owners.Same(a, b))
			}
		}
	}
	// a list that is nil and one that is empty are the same
	empty := api.Owners{Lines: []api.Line{{Owners: []string{}}}}
	if !owners.Same(open(), api.Owners{Lines: []api.Line{}}) || !owners.Same(empty, open(of())) || !owners.Same(open(of()), empty) || owners.Same(empty, open()) || owners.Same(open(), empty) {
		t.Error("Same of nil and of empty lists")
	}
}
