package history_test

import (
	"fmt"
	"math"
	"slices"
	"strings"
	"testing"

	"quilter/api"
	"quilter/history"
	"quilter/tree"
)

// deltas answers changes, by texts such as `+a=1`, `~a=2`, `-a`, a blank between; any other sign is of no kind.
func deltas(text string) []api.Delta {
	var l []api.Delta
	for _, s := range strings.Fields(text) {
		p, body, _ := strings.Cut(s[1:], "=")
		l = append(l, api.Delta{Kind: strings.Index("+~-", s[:1]) + 1, Path: p, Body: []byte(body)})
	}
	return l
}

// files answers a tree, by texts such as `a=1`, a blank between, in their order.
func files(text string) api.Tree {
	var t api.Tree
	for _, s := range strings.Fields(text) {
		p, body, _ := strings.Cut(s, "=")
		t = append(t, api.File{Path: p, Body: []byte(body)})
	}
	return t
}

// many answers so many files, by rising paths.
func many(n int) api.Tree {
	var t api.Tree
	for i := range n {
		t = append(t, api.File{Path: fmt.Sprintf("d%02d/f%04d", i/100, i), Body: []byte("x")})
	}
	return t
}

// show answers what stands in t, and nothing of how it is kept.
func show(t api.Tree) string {
	var l []string
	for _, f := range t {
		l = append(l, fmt.Sprintf("%s=%q", f.Path, f.Body))
	}
	return strings.Join(l, " ")
}

// tell answers what stands in l, and nothing of how it is kept.
func tell(l []api.Delta) string {
	var all []string
	for _, d := range l {
		all = append(all, fmt.Sprintf("%d %s=%q", d.Kind, d.Path, d.Body))
	}
	return strings.Join(all, ", ")
}

// begun answers a history of those files, behind those commits, all of which have to be taken.
func begun(t *testing.T, first string, commits ...string) *history.History {
	t.Helper()
	h, e := history.New(files(first))
	if e != api.OK || h == nil {
		t.Fatalf("New(%s): %d", first, e)
	}
	for i, text := range commits {
		if r, e := h.Commit(deltas(text)...); r != i+1 || e != api.OK {
			t.Fatalf("Commit(%s) = %d, %d; want %d", text, r, e, i+1)
		}
	}
	return h
}

// model says the chapter's words over again: it keeps the tree of each revision, and what made it.
type model struct {
	trees []api.Tree
	made  [][]api.Delta
}

func (m *model) commit(l []api.Delta) (int, api.Errno) {
	if len(l) == 0 {
		return 0, api.ErrArg
	}
	t, e := tree.Apply(m.trees[len(m.trees)-1], l...)
	if e != api.OK {
		return 0, e
	}
	m.trees, m.made = append(m.trees, t), append(m.made, l)
	return len(m.trees) - 1, api.OK
}

func (m *model) last(s string) int {
	for r, l := range slices.Backward(m.made) {
		if slices.ContainsFunc(l, func(d api.Delta) bool { return d.Path == s }) {
			return r
		}
	}
	return 0
}

// differs answers what h tells otherwise than m; nothing, if there is no such thing.
func (m *model) differs(h *history.History) string {
	head := len(m.trees) - 1
	if h.Head() != head {
		return fmt.Sprintf("Head = %d; want %d", h.Head(), head)
	}
	for r := range m.trees {
		if t, e := h.At(r); e != api.OK || !tree.Same(t, m.trees[r]) {
			return fmt.Sprintf("At(%d) = %s, %d; want %s", r, show(t), e, show(m.trees[r]))
		}
		if l, e := h.Deltas(r); e != api.OK || tell(l) != tell(m.made[r]) {
			return fmt.Sprintf("Deltas(%d) = %s, %d; want %s", r, tell(l), e, tell(m.made[r]))
		}
	}
	for _, r := range []int{-1, head + 1, math.MinInt, math.MaxInt} {
		if t, e := h.At(r); t != nil || e != api.ErrFuture {
			return fmt.Sprintf("At(%d) = %s, %d", r, show(t), e)
		}
		if l, e := h.Deltas(r); l != nil || e != api.ErrFuture {
			return fmt.Sprintf("Deltas(%d) = %s, %d", r, tell(l), e)
		}
	}
	return m.differsOfPaths(h)
}

func (m *model) differsOfPaths(h *history.History) string {
	paths := []string{"b", "a", "a/b", "b", "never", "", "a/", "a"}
	for _, s := range paths {
		if h.Last(s) != m.last(s) {
			return fmt.Sprintf("Last(%q) = %d; want %d", s, h.Last(s), m.last(s))
		}
	}
	for _, r := range []int{math.MinInt, -1, 0, 1, 2, 3, 4, math.MaxInt} {
		var want []string
		for _, s := range paths {
			if m.last(s) > r {
				want = append(want, s)
			}
		}
		if got := h.Since(r, paths...); !slices.Equal(got, want) {
			return fmt.Sprintf("Since(%d) = %q; want %q", r, got, want)
		}
	}
	return ""
}

func TestNew(t *testing.T) {
	for _, l := range []api.Tree{nil, {}, files("a"), files("a=1 a.b=2 a0/c=3"), many(api.MaxTree), {{Path: "a", Body: make([]byte, api.MaxBody)}}} {
		h, e := history.New(l)
		if e != api.OK {
			t.Fatalf("New(%.100s): %d", show(l), e)
		}
		m := &model{trees: []api.Tree{l}, made: [][]api.Delta{nil}}
		if d := m.differs(h); d != "" {
			t.Errorf("New(%.100s): %.300s", show(l), d)
		}
	}
	for _, l := range []api.Tree{
		{{}}, files("/"), files("a/"), files("../a"), files("b a"), files("a a"), files("a a/b"), files("b b.x b/c"), many(api.MaxTree + 1),
		{{Path: strings.Repeat("n", api.MaxName+1)}}, {{Path: "a", Body: make([]byte, api.MaxBody+1)}},
	} {
		if h, e := history.New(l); h != nil || e != api.ErrArg {
			t.Errorf("New(%.100s) = %v, %d", show(l), h != nil, e)
		}
	}
}

func TestCommit(t *testing.T) {
	h := begun(t, "a=1 b/c=2")
	long := "=" + strings.Repeat("z", api.MaxBody+1)
	for _, x := range []struct {
		want api.Errno
		text string
	}{
		{api.ErrArg, ""},
		{api.ErrArg, "?a=2"},
		{api.ErrArg, "+=2"},
		{api.ErrArg, "+d/=2"},
		{api.ErrArg, "+d ~../a"},
		{api.ErrThere, "+a=2"},
		{api.ErrThere, "+d +d"},
		{api.ErrNone, "~d=2"},
		{api.ErrNone, "-b"},
		{api.ErrNone, "-a -a"},
		{api.ErrNone, "-d +a ?"},
		{api.ErrPath, "+a/b=2"},
		{api.ErrPath, "+b=2"},
		{api.ErrPath, "+d +d.x +d/e"},
		{api.ErrLong, "+d" + long},
		{api.ErrLong, "~a" + long},
		{api.ErrLong, "+a/b +d" + long},
	} {
		if r, e := h.Commit(deltas(x.text)...); r != 0 || e != x.want {
			t.Errorf("Commit(%.100s) = %d, %d; want %d", x.text, r, e, x.want)
		}
	}
	m := &model{trees: []api.Tree{files("a=1 b/c=2")}, made: [][]api.Delta{nil}}
	if d := m.differs(h); d != "" {
		t.Errorf("behind commits that were refused: %s", d)
	}
	for _, text := range []string{"+d=1", "~a=1", "~a=2 ~a=3", "+e=1 -e", "-a +a=4", "-a +a/b=5", "+f" + long + " ~f=1", "+g" + long + " -g", "-a/b -b/c -d -f", "+a=9"} {
		want, _ := m.commit(deltas(text))
		if r, e := h.Commit(deltas(text)...); r != want || e != api.OK {
			t.Errorf("Commit(%.100s) = %d, %d; want %d", text, r, e, want)
		}
		if d := m.differs(h); d != "" {
			t.Fatalf("behind Commit(%.100s): %.300s", text, d)
		}
	}
}

// TestByTheWords holds all short rows of commits against the plain words.
func TestByTheWords(t *testing.T) {
	commits := []string{"", "+a=1", "~a=2", "-a", "+b=3 ~a=4", "~b=5 -b +b=6", "+a/b=7", "-a +a/b=8", "-a/b", "+b=9 -b", "?a", "-b -a"}
	var all func(first string, row []string)
	all = func(first string, row []string) {
		h, _ := history.New(files(first))
		m := &model{trees: []api.Tree{files(first)}, made: [][]api.Delta{nil}}
		for _, text := range row {
			want, wantErr := m.commit(deltas(text))
			if r, e := h.Commit(deltas(text)...); r != want || e != wantErr {
				t.Fatalf("%q, %q: Commit(%s) = %d, %d; want %d, %d", first, row, text, r, e, want, wantErr)
			}
		}
		if d := m.differs(h); d != "" {
			t.Fatalf("%q, %q: %s", first, row, d)
		}
		if len(row) == 3 {
			return
		}
		for _, text := range commits {
			all(first, append(slices.Clip(row), text))
		}
	}
	for _, first := range []string{"", "a=0", "a.x=0 b=0", "a/b=0 b=0"} {
		all(first, nil)
	}
}

func TestAt(t *testing.T) {
	h := begun(t, "a=1", "~a=2 +b=0", "-b", "+b=1 -a", "~b=2", "+a.b +a-b +a/b +a0")
	for r, want := range []string{"a=1", "a=2 b=0", "a=2", "b=1", "b=2", "a-b a.b a/b a0 b=2"} {
		if got, e := h.At(r); e != api.OK || !tree.Same(got, files(want)) {
			t.Errorf("At(%d) = %s, %d; want %s", r, show(got), e, want)
		}
	}
}

func TestDeltas(t *testing.T) {
	rows := []string{"+c=1 ~a=2 +b", "-c -a", "+z +y=2 ~z=3 -y", "~z=3"}
	h := begun(t, "a=1", rows...)
	if l, e := h.Deltas(0); len(l) != 0 || e != api.OK {
		t.Errorf("Deltas(0) = %s, %d", tell(l), e)
	}
	for i, text := range rows {
		if l, e := h.Deltas(i + 1); tell(l) != tell(deltas(text)) || e != api.OK {
			t.Errorf("Deltas(%d) = %s, %d; want %s", i+1, tell(l), e, text)
		}
	}
	// They are what was committed, also where a body means nothing.
	if r, e := h.Commit(deltas("-z=4")...); r != 5 || e != api.OK {
		t.Fatalf("Commit = %d, %d", r, e)
	}
	if l, e := h.Deltas(5); tell(l) != `3 z="4"` || e != api.OK {
		t.Errorf("Deltas(5) = %s, %d", tell(l), e)
	}
}

func TestLastAndSince(t *testing.T) {
	h := begun(t, "a=1 b=1 c=1", "~a=2", "-b +d", "~a=2", "+e -e", "-a +a/b")
	if _, e := h.Commit(deltas("~c=2 +c")...); e != api.ErrThere {
		t.Fatalf("Commit: %d", e)
	}
	for s, want := range map[string]int{"a": 5, "b": 2, "c": 0, "d": 2, "e": 4, "a/b": 5, "f": 0, "": 0, "a/": 0, "/a": 0, "*": 0, "\xff": 0} {
		if got := h.Last(s); got != want {
			t.Errorf("Last(%q) = %d; want %d", s, got, want)
		}
	}
	for _, x := range []struct {
		r    int
		l    []string
		want []string
	}{
		{0, []string{"e", "d", "c", "b", "a"}, []string{"e", "d", "b", "a"}},
		{1, []string{"b", "a", "c", "b"}, []string{"b", "a", "b"}},
		{2, []string{"a", "b", "c", "d", "e", "a/b"}, []string{"a", "e", "a/b"}},
		{3, []string{"a", "b", "e"}, []string{"a", "e"}},
		{4, []string{"e", "a/b", "a"}, []string{"a/b", "a"}},
		{5, []string{"a", "b", "c", "d", "e"}, nil},
		{math.MaxInt, []string{"a"}, nil},
		{0, nil, nil},
		{0, []string{"f", "", "c"}, nil},
		// each Last is above these
		{-1, []string{"f", "", "c", "a"}, []string{"f", "", "c", "a"}},
		{math.MinInt, []string{"a/"}, []string{"a/"}},
	} {
		if got := h.Since(x.r, x.l...); !slices.Equal(got, x.want) {
			t.Errorf("Since(%d, %q) = %q; want %q", x.r, x.l, got, x.want)
		}
	}
}

// TestCopy lets a history, its copy and the copy's copy go on, each its own way, in turns.
func TestCopy(t *testing.T) {
	first := begun(t, "a=1 b=1", "~a=2", "~a=3", "+c=1")
	m := model{trees: []api.Tree{files("a=1 b=1")}, made: [][]api.Delta{nil}}
	for r := range first.Head() {
		l, _ := first.Deltas(r + 1)
		m.commit(l)
	}
	own := func() *model { return &model{trees: slices.Clone(m.trees), made: slices.Clone(m.made)} }
	second := first.Copy()
	all := []*history.History{first, second, second.Copy()}
	models := []*model{own(), own(), own()}
	for round := range 20 {
		for i, h := range all {
			text := []string{"~a=%d", "-c +c=%d", "-b +b=%d"}[(i+round)%3]
			l := deltas(fmt.Sprintf(text, 10*round+i))
			want, _ := models[i].commit(l)
			if r, e := h.Commit(l...); r != want || e != api.OK {
				t.Fatalf("%d: Commit(%s) = %d, %d; want %d", i, tell(l), r, e, want)
			}
			for j := range all {
				if d := models[j].differs(all[j]); d != "" {
					t.Fatalf("%d, behind a commit of %d: %s", j, i, d)
				}
			}
		}
	}
}

func TestNilHistory(t *testing.T) {
	var h *history.History
	for _, l := range [][]api.Delta{nil, deltas("+a"), deltas("?")} {
		if r, e := h.Commit(l...); r != 0 || e != api.ErrNil {
			t.Errorf("Commit(%s) = %d, %d", tell(l), r, e)
		}
	}
	for _, r := range []int{-1, 0, 1} {
		if u, e := h.At(r); u != nil || e != api.ErrNil {
			t.Errorf("At(%d) = %s, %d", r, show(u), e)
		}
		if l, e := h.Deltas(r); l != nil || e != api.ErrNil {
			t.Errorf("Deltas(%d) = %s, %d", r, tell(l), e)
		}
		if l := h.Since(r, "a", ""); len(l) != 0 {
			t.Errorf("Since(%d) = %q", r, l)
		}
	}
	if h.Head() != -1 || h.Last("a") != 0 || h.Last("") != 0 || h.Copy() != nil {
		t.Errorf("Head = %d, Last = %d, Copy = %v", h.Head(), h.Last("a"), h.Copy())
	}
}

// TestZeroHistory asks of one that New did not make that it is as one of no file is.
func TestZeroHistory(t *testing.T) {
	h, m := &history.History{}, &model{trees: []api.Tree{nil}, made: [][]api.Delta{nil}}
	c := h.Copy()
	for _, text := range []string{"", "-a", "+a=1", "~a=2 +b", "-a"} {
		if d := m.differs(h); d != "" {
			t.Errorf("ahead of Commit(%s): %s", text, d)
		}
		want, wantErr := m.commit(deltas(text))
		if r, e := h.Commit(deltas(text)...); r != want || e != wantErr {
			t.Errorf("Commit(%s) = %d, %d; want %d, %d", text, r, e, want, wantErr)
		}
	}
	if r, e := c.Commit(deltas("+c")...); r != 1 || e != api.OK || h.Last("c") != 0 {
		t.Errorf("its copy: Commit = %d, %d", r, e)
	}
}

func TestMaxRevs(t *testing.T) {
	h := begun(t, "a")
	for want := 1; want <= api.MaxRevs; want++ {
		body := fmt.Append(nil, want)
		if r, e := h.Commit(api.Delta{Kind: api.Modify, Path: "a", Body: body}); r != want || e != api.OK {
			t.Fatalf("Commit = %d, %d; want %d", r, e, want)
		}
	}
	c := h.Copy()
	for _, x := range []struct {
		want api.Errno
		text string
	}{{api.ErrLong, "~a=1"}, {api.ErrLong, "+a"}, {api.ErrLong, "?"}, {api.ErrArg, ""}} {
		for _, h := range []*history.History{h, c} {
			if r, e := h.Commit(deltas(x.text)...); r != 0 || e != x.want || h.Head() != api.MaxRevs {
				t.Errorf("Commit(%s) = %d, %d; Head = %d", x.text, r, e, h.Head())
			}
		}
	}
	for _, r := range []int{1, 2, api.MaxRevs / 2, api.MaxRevs} {
		want := fmt.Sprintf("a=%d", r)
		if u, e := h.At(r); e != api.OK || !tree.Same(u, files(want)) {
			t.Errorf("At(%d) = %s, %d", r, show(u), e)
		}
		if l, e := h.Deltas(r); e != api.OK || tell(l) != tell(deltas("~"+want)) {
			t.Errorf("Deltas(%d) = %s, %d", r, tell(l), e)
		}
	}
	if _, e := h.At(api.MaxRevs + 1); e != api.ErrFuture || h.Last("a") != api.MaxRevs {
		t.Errorf("behind the last: %d, %d", e, h.Last("a"))
	}
}

func TestMaxTree(t *testing.T) {
	h, e := history.New(many(api.MaxTree))
	if e != api.OK {
		t.Fatalf("New: %d", e)
	}
	for _, x := range []struct {
		r    int
		want api.Errno
		text string
	}{{0, api.ErrLong, "+a"}, {0, api.ErrLong, "+d00"}, {1, api.OK, "+a -d00/f0000"}, {0, api.ErrLong, "+d00/f0000"}, {2, api.OK, "+b -a"}} {
		if r, e := h.Commit(deltas(x.text)...); r != x.r || e != x.want {
			t.Errorf("Commit(%s) = %d, %d; want %d, %d", x.text, r, e, x.r, x.want)
		}
	}
	if u, e := h.At(0); e != api.OK || !tree.Same(u, many(api.MaxTree)) {
		t.Errorf("At(0): %d files, %d", len(u), e)
	}
}
