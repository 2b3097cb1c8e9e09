package owners_test

import (
	"fmt"
	"slices"
	"strconv"
	"strings"
	"testing"

	"quilter/api"
	"quilter/owners"
)

// files answers a list of files, by texts `path=body`, in their order.
func files(l ...string) api.Tree {
	var t api.Tree
	for _, s := range l {
		p, body, _ := strings.Cut(s, "=")
		t = append(t, api.File{Path: p, Body: []byte(body)})
	}
	return t
}

// showTree answers the beginning of what stands in t.
func showTree(t api.Tree) string {
	var l []string
	for _, f := range t {
		l = append(l, fmt.Sprintf("%q=%q", short(f.Path), short(string(f.Body))))
	}
	return short(strings.Join(l, " "))
}

// whose asks that s is of just these.
func whose(t *testing.T, l api.Tree, s string, want ...string) {
	t.Helper()
	if got, e := owners.Of(l, s); e != api.OK || !slices.Equal(got, want) {
		t.Errorf("Of(%s, %q) = %q, %d; want %q", showTree(l), s, got, e, want)
	}
}

// refused asks that Of tells that error, and nothing else.
func refused(t *testing.T, l api.Tree, s string, want api.Errno) {
	t.Helper()
	if got, e := owners.Of(l, s); e != want || len(got) != 0 {
		t.Errorf("Of(%s, %q) = %q, %d; want error %d", showTree(l), short(s), got, e, want)
	}
}

func TestOf(t *testing.T) {
	whose(t, nil, "a")
	whose(t, api.Tree{}, "a/b/c")
	whose(t, files("a/x=1", "b=2"), "a/x")
	whose(t, files("OWNERS=a", "d/OWNERS=per-file *.go b"), "d/x.go", "a", "b")
	// all directories of s, and no other one; s need not be there
	l := files("OWNERS=top", "a/OWNERS=ann", "a/b/OWNERS=bob", "a/b/c/d/OWNERS=dan", "b/OWNERS=eve")
	whose(t, l, "x", "top")
	whose(t, l, "a", "top")
	whose(t, l, "a/x", "ann", "top")
	whose(t, l, "a/b", "ann", "top")
	whose(t, l, "a/b/x", "ann", "bob", "top")
	whose(t, l, "a/b/c/x", "ann", "bob", "top")
	whose(t, l, "a/b/c/d/x", "ann", "bob", "dan", "top")
	whose(t, l, "a/b/c/d/e/f", "ann", "bob", "dan", "top")
	whose(t, l, "b/x", "eve", "top")
	whose(t, l, "b/a/b/x", "eve", "top")
	whose(t, l, "aa/x", "top")
	whose(t, l, "a.b/x", "top")
	whose(t, l, "x/a/OWNERS", "top")
	whose(t, l, "a/OWNERS", "ann", "top")
	whose(t, l, "OWNERS", "top")
	whose(t, l, "OWNERS/x", "top")
	// other names tell nothing
	whose(t, files("OWNERS.txt=a", "Owners=b", "d/AOWNERS=c", "dOWNERS=e", "d/x/OWNERS=f", "owners=g"), "d/x")
}

func TestOfRising(t *testing.T) {
	whose(t, files("OWNERS=b\na\nc\na", "d/OWNERS=c\nb\n0\nper-file * z -", "d/e/OWNERS=aa\na-\na\nb"), "d/x", "-", "0", "a", "b", "c", "z")
	whose(t, files("OWNERS=b\na\nc\na", "d/OWNERS=c\nb\n0\nper-file * z -", "d/e/OWNERS=aa\na-\na\nb"), "d/e/x", "0", "a", "a-", "aa", "b", "c")
	var text strings.Builder
	var want []string
	for i := range 1000 {
		name := "n" + strconv.Itoa(i)
		text.WriteString(name + "\n")
		want = append(want, name)
	}
	slices.Sort(want)
	for range 5 {
		whose(t, files("OWNERS="+text.String()), "x", want...)
	}
}

func TestOfNoParent(t *testing.T) {
	for _, body := range []string{"set noparent\nbob", "bob\nset noparent", " set  noparent # so\nset noparent\nbob\n"} {
		l := files("OWNERS=top", "a/OWNERS=ann", "a/b/OWNERS="+body, "a/b/c/OWNERS=cy")
		whose(t, l, "a/b/x", "bob")
		whose(t, l, "a/b/c/x", "bob", "cy")
		whose(t, l, "a/b/d/e/x", "bob")
		whose(t, l, "a/x", "ann", "top")
		whose(t, l, "x", "top")
	}
	whose(t, files("OWNERS=top", "a/OWNERS=set noparent"), "a/x")
	whose(t, files("OWNERS=top", "a/OWNERS=set noparent", "a/b/OWNERS=bob"), "a/b/x", "bob")
	whose(t, files("OWNERS=top\nset noparent", "a/OWNERS=ann"), "a/x", "ann", "top")
	whose(t, files("OWNERS=top\nset noparent", "a/OWNERS=ann"), "x", "top")
	whose(t, files("OWNERS=top", "a/OWNERS=set noparent\nper-file *.go go"), "a/x.go", "go")
	whose(t, files("OWNERS=top", "a/OWNERS=set noparent\nper-file *.go go"), "a/b/x.go")
}

func TestOfPerFile(t *testing.T) {
	l := files("OWNERS=top\nper-file x root\nper-file *.go go", "a/OWNERS=ann\nper-file *.go go gopher\nper-file x.* any\nper-file ? one\nper-file ** all\nper-file OWNERS us")
	whose(t, l, "x", "root", "top")
	whose(t, l, "y", "top")
	whose(t, l, "x.go", "go", "top")
	whose(t, l, "xx", "top")
	whose(t, l, "a/x", "all", "ann", "one", "top")
	whose(t, l, "a/x.go", "all", "ann", "any", "go", "gopher", "top")
	whose(t, l, "a/y.go", "all", "ann", "go", "gopher", "top")
	whose(t, l, "a/x.", "all", "ann", "any", "top")
	whose(t, l, "a/OWNERS", "all", "ann", "top", "us")
	// further down than in the directory itself its globs are not asked
	whose(t, l, "a/b/x", "ann", "top")
	whose(t, l, "a/b/x.go", "ann", "top")
	whose(t, l, "b/x", "top")
	// of the last name alone
	whose(t, files("a/b/OWNERS=per-file a x\nper-file b y\nper-file * z"), "a/b/c", "z")
	whose(t, files("a/a/OWNERS=per-file a x\nper-file b y"), "a/a/b", "y")
	// a directory of that name further up is another one
	whose(t, files("a/OWNERS=per-file * up", "a/a/OWNERS=per-file * down"), "a/a/x", "down")
	whose(t, files("OWNERS=per-file * up"), "a/x")
}

func TestOfErrors(t *testing.T) {
	l := files("OWNERS=top", "d/OWNERS=Wrong", "e/OWNERS=set noparent\nok", "e/f/OWNERS=a b", "g/OWNERS="+strings.Repeat("#", 1<<14+1), "g/h/OWNERS=set noparent\nWrong", "i/OWNERS="+strings.Repeat("#", 1<<14))
	refused(t, l, "d/x", api.ErrLine)
	refused(t, l, "d/e/f", api.ErrLine)
	refused(t, l, "e/f/x", api.ErrLine)
	refused(t, l, "g/x", api.ErrLong)
	refused(t, l, "g/y/z", api.ErrLong)
	refused(t, l, "g/h/x", api.ErrLine) // the first one on the way up
	whose(t, l, "e/x", "ok")
	whose(t, l, "i/x", "top")
	whose(t, l, "x", "top")
	// what is not asked tells no error
	l = files("OWNERS=Wrong", "a/OWNERS=ann", "b/OWNERS=set noparent\nbob")
	refused(t, l, "x", api.ErrLine)
	refused(t, l, "a/x", api.ErrLine)
	refused(t, l, "c/d/x", api.ErrLine)
	whose(t, l, "b/x", "bob")
	whose(t, l, "b/c/x", "bob")
	refused(t, files("OWNERS="+strings.Repeat("\n", 1<<14+1), "a/OWNERS=Wrong"), "a/x", api.ErrLine)
	refused(t, files("OWNERS=Wrong", "a/OWNERS="+strings.Repeat("\n", 1<<14+1)), "a/x", api.ErrLong)
	// a path that may not be is told first
	for _, s := range []string{"", "/", "a/", "/a", "a//b", ".", "..", "a/..", "./a", "a b", "a/*", "\x00", "\xff", strings.Repeat("a", 31), strings.Repeat("a/", 50) + "b", strings.Repeat("/", 1<<16)} {
		refused(t, l, s, api.ErrPath)
		refused(t, nil, s, api.ErrPath)
		refused(t, files(s+"=1"), s, api.ErrPath)
	}
}

// TestOfAnyTree asks of lists of files that are no trees: the first file of a path counts.
func TestOfAnyTree(t *testing.T) {
	whose(t, files("a/OWNERS=ann", "a/OWNERS=Wrong", "OWNERS=top", "OWNERS=bot"), "a/x", "ann", "top")
	whose(t, files("OWNERS=top", "OWNERS/OWNERS=in"), "OWNERS/x", "in", "top")
	whose(t, files("/OWNERS=a", "./OWNERS=b", "a//OWNERS=c", "=d", "OWNERS/=e"), "a/x")
	refused(t, files("a/OWNERS=Wrong", "a/OWNERS=ann"), "a/x", api.ErrLine)
	whose(t, api.Tree{{Path: "OWNERS"}}, "x")
	refused(t, api.Tree{{Path: "OWNERS", Body: make([]byte, 1<<20)}}, "x", api.ErrLong)
	refused(t, api.Tree{{Path: "OWNERS", Body: make([]byte, 1)}}, "x", api.ErrLine)
}

// TestOfDeep asks of the longest path, with an OWNERS in each directory; that of the last ones would be too long for a tree.
func TestOfDeep(t *testing.T) {
	s := strings.Repeat("a/", 49) + "bc"
	var l api.Tree
	var want []string
	for i := range 50 {
		name := fmt.Sprintf("n%02d", i)
		l = append(l, api.File{Path: strings.Repeat("a/", i) + "OWNERS", Body: []byte(name + "\nper-file bc p" + name)})
		want = append(want, name)
	}
	whose(t, l, s, append(want, "pn49")...)
	l[20].Body = []byte("set noparent")
	whose(t, l, s, append(want[21:], "pn49")...)
	l[30].Body = []byte("Wrong")
	refused(t, l, s, api.ErrLine)
	l[40].Body = []byte("set noparent")
	whose(t, l, s, append(want[41:], "pn49")...)
}
