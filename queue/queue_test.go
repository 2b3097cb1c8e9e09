package queue_test

import (
	"fmt"
	"math"
	"slices"
	"strings"
	"testing"

	"quilter/api"
	"quilter/history"
	"quilter/queue"
)

// deltas answers changes, by texts such as `+a=1`, `~a=2`, `-a`, a blank between; any other sign is of no kind.
func deltas(text string) []api.Delta {
	var l []api.Delta
	for _, s := range strings.Fields(text) {
		p, body, _ := strings.Cut(s[1:], "=")
		l = append(l, api.Delta{Kind: strings.Index("+~-", s[:1]) + 1, Path: p, Body: []byte(body)})
	}
	return l
}

// files answers a tree, by texts such as `a=1`, a blank between, in their order.
func files(text string) api.Tree {
	var t api.Tree
	for _, s := range strings.Fields(text) {
		p, body, _ := strings.Cut(s, "=")
		t = append(t, api.File{Path: p, Body: []byte(body)})
	}
	return t
}

// tell answers what stands in l, and nothing of how it is kept.
func tell(l []api.Delta) string {
	var all []string
	for _, d := range l {
		all = append(all, fmt.Sprintf("%d %s=%q", d.Kind, d.Path, d.Body))
	}
	return strings.Join(all, ", ")
}

// request answers one of those changes.
func request(id int, base int, text string) api.Request {
	return api.Request{ID: id, Base: base, L: deltas(text)}
}

// begun answers a history of those files, behind those commits, all of which have to be taken.
func begun(t *testing.T, first string, commits ...string) *history.History {
	t.Helper()
	h, e := history.New(files(first))
	if e != api.OK {
		t.Fatalf("New(%s): %d", first, e)
	}
	for _, text := range commits {
		commitsOne(t, h, text)
	}
	return h
}

// commitsOne commits what has to be taken.
func commitsOne(t *testing.T, h *history.History, text string) {
	t.Helper()
	want := h.Head() + 1
	if r, e := h.Commit(deltas(text)...); r != want || e != api.OK {
		t.Fatalf("Commit(%s) = %d, %d; want %d", text, r, e, want)
	}
}

// submits asks what one Submit answers.
func submits(t *testing.T, q *queue.Queue, r api.Request, want api.Errno) {
	t.Helper()
	if e := q.Submit(r); e != want {
		t.Errorf("Submit(%d, %d, %s) = %d; want %d", r.ID, r.Base, tell(r.L), e, want)
	}
}

// steps asks what one Step answers, and whether Ask answers the same from then on.
func steps(t *testing.T, q *queue.Queue, pass bool, want api.Answer) {
	t.Helper()
	if a, is := q.Ask(want.ID); is || a != (api.Answer{}) {
		t.Errorf("Ask(%d) = %v, %t, ahead of Step", want.ID, a, is)
	}
	if a, is := q.Step(pass); !is || a != want {
		t.Errorf("Step(%t) = %v, %t; want %v", pass, a, is, want)
	}
	for range 2 {
		if a, is := q.Ask(want.ID); !is || a != want {
			t.Errorf("Ask(%d) = %v, %t; want %v", want.ID, a, is, want)
		}
	}
}

// waits asks who waits.
func waits(t *testing.T, q *queue.Queue, want ...int) {
	t.Helper()
	if l := q.Waits(); !slices.Equal(l, want) {
		t.Errorf("Waits = %v; want %v", l, want)
	}
}

// rests asks of a queue in which none waits.
func rests(t *testing.T, q *queue.Queue) {
	t.Helper()
	waits(t, q)
	for _, pass := range []bool{true, false} {
		if a, is := q.Step(pass); is || a != (api.Answer{}) {
			t.Errorf("Step(%t) = %v, %t", pass, a, is)
		}
	}
}

func landed(id int, rev int) api.Answer {
	return api.Answer{ID: id, Kind: api.Landed, Rev: rev}
}

func refused(id int, e api.Errno) api.Answer {
	return api.Answer{ID: id, Kind: api.Refused, E: e}
}

func conflict(id int) api.Answer {
	return api.Answer{ID: id, Kind: api.Conflict}
}

func flaked(id int) api.Answer {
	return api.Answer{ID: id, Kind: api.Flaked}
}

func TestExample(t *testing.T) {
	q := queue.New(begun(t, ""), 1)
	submits(t, q, request(5, 0, "+a"), api.OK)
	steps(t, q, true, landed(5, 1))
	submits(t, q, request(5, 0, "+a"), api.ErrTwice)
	rests(t, q)
}

func TestFirstComeFirstAnswered(t *testing.T) {
	h := begun(t, "a b c")
	q := queue.New(h, 3)
	rests(t, q)
	for i, id := range []int{7, 2, math.MaxInt} {
		submits(t, q, request(id, 0, "~"+"abc"[i:i+1]), api.OK)
	}
	waits(t, q, 7, 2, math.MaxInt)
	steps(t, q, true, landed(7, 1))
	waits(t, q, 2, math.MaxInt)
	submits(t, q, request(1, 0, "+d"), api.OK)
	waits(t, q, 2, math.MaxInt, 1)
	steps(t, q, true, landed(2, 2))
	steps(t, q, true, landed(math.MaxInt, 3))
	steps(t, q, true, landed(1, 4))
	rests(t, q)
	for r, want := range []string{"", "~a", "~b", "~c", "+d"} {
		if l, e := h.Deltas(r); e != api.OK || tell(l) != tell(deltas(want)) {
			t.Errorf("Deltas(%d) = %s, %d; want %s", r, tell(l), e, want)
		}
	}
}

// TestSubmitRefuses asks for each error, and for the first one where several apply, of a queue that is full, where 1 was answered and 2 waits.
func TestSubmitRefuses(t *testing.T) {
	h := begun(t, "a")
	q := queue.New(h, 1)
	submits(t, q, request(1, 0, "~a"), api.OK)
	steps(t, q, true, landed(1, 1))
	submits(t, q, request(2, 1, "~a"), api.OK)
	for _, c := range []struct {
		id, base int
		text     string
		want     api.Errno
	}{
		{0, 0, "~a", api.ErrArg},
		{-1, 0, "~a", api.ErrArg},
		{math.MinInt, 0, "~a", api.ErrArg},
		{3, 0, "", api.ErrArg},
		{0, 2, "~a", api.ErrArg},
		{0, -1, "", api.ErrArg},
		{3, 2, "", api.ErrArg},
		{3, -1, "", api.ErrArg},
		{1, 0, "", api.ErrArg},
		{2, 2, "", api.ErrArg},
		{3, 2, "~a", api.ErrFuture},
		{3, math.MaxInt, "~a", api.ErrFuture},
		{3, -1, "~a", api.ErrFuture},
		{3, math.MinInt, "~a", api.ErrFuture},
		{1, 2, "~a", api.ErrFuture},
		{2, -1, "~a", api.ErrFuture},
		{1, 0, "~a", api.ErrTwice},
		{1, 1, "~a", api.ErrTwice},
		{1, 1, "+b", api.ErrTwice},
		{2, 0, "~a", api.ErrTwice},
		{2, 1, "~a", api.ErrTwice},
		{3, 0, "~a", api.ErrFull},
		{3, 1, "~a", api.ErrFull},
		{math.MaxInt, 1, "?a", api.ErrFull},
	} {
		submits(t, q, request(c.id, c.base, c.text), c.want)
		submits(t, q, api.Request{ID: c.id, Base: c.base, L: append([]api.Delta{}, deltas(c.text)...)}, c.want)
		waits(t, q, 2)
	}
	steps(t, q, true, landed(2, 2))
	for _, id := range []int{3, math.MaxInt} { // what was not taken is not known
		if a, is := q.Ask(id); is || a != (api.Answer{}) {
			t.Errorf("Ask(%d) = %v, %t", id, a, is)
		}
		submits(t, q, request(id, 2, "~a"), api.OK)
		steps(t, q, false, flaked(id))
	}
	if h.Head() != 2 {
		t.Errorf("Head = %d", h.Head())
	}
}

// TestTakenEver asks for it behind each kind of answer, and while one waits.
func TestTakenEver(t *testing.T) {
	h := begun(t, "a")
	q := queue.New(h, 5)
	for id, text := range []string{1: "~a", 2: "~a", 3: "+b", 4: "-c"} {
		if id > 0 {
			submits(t, q, request(id, 0, text), api.OK)
			submits(t, q, request(id, 0, "+new"), api.ErrTwice)
		}
	}
	waits(t, q, 1, 2, 3, 4)
	steps(t, q, true, landed(1, 1))
	steps(t, q, true, conflict(2))
	steps(t, q, false, flaked(3))
	steps(t, q, true, refused(4, api.ErrNone))
	for id := range 5 {
		want := []api.Errno{api.ErrArg, api.ErrTwice, api.ErrTwice, api.ErrTwice, api.ErrTwice}[id]
		submits(t, q, request(id, 1, "+new"), want)
	}
	rests(t, q)
	if a, is := q.Ask(1); !is || a != landed(1, 1) {
		t.Errorf("Ask(1) = %v, %t", a, is)
	}
	for _, id := range []int{0, -1, 5, math.MinInt, math.MaxInt} {
		if a, is := q.Ask(id); is || a != (api.Answer{}) {
			t.Errorf("Ask(%d) = %v, %t", id, a, is)
		}
	}
}

// TestRoom asks how many may wait, at the clips and around them.
func TestRoom(t *testing.T) {
	for _, c := range []struct{ room, want int }{
		{math.MinInt, 1}, {-1, 1}, {0, 1}, {1, 1}, {2, 2}, {99, 99}, {100, 100}, {101, 100}, {math.MaxInt, 100},
	} {
		q := queue.New(begun(t, ""), c.room)
		var ids []int
		for id := 1; id <= c.want; id++ {
			submits(t, q, request(id, 0, "+a"), api.OK)
			ids = append(ids, id)
		}
		for range 3 {
			submits(t, q, request(1000, 0, "+a"), api.ErrFull)
		}
		waits(t, q, ids...)
		steps(t, q, false, flaked(1))
		submits(t, q, request(1000, 0, "+a"), api.OK)
		submits(t, q, request(1001, 0, "+a"), api.ErrFull)
		waits(t, q, append(ids[1:], 1000)...)
	}
}

// TestConflict asks which Requests have one, behind these: 1 changed a, 2 deleted b and added b/x, 3 added c, 4 deleted it.
func TestConflict(t *testing.T) {
	commits := []string{"~a=1", "-b +b/x", "+c", "-c"}
	for _, c := range []struct {
		base int
		text string
		want bool
	}{
		{0, "~a=2", true}, {1, "~a=2", false}, {4, "~a=2", false},
		{0, "-a", true}, {1, "-a", false},
		{0, "~d ~a", true}, {0, "~a ~d", true}, {0, "~d ~a ~d", true}, {1, "~d ~a ~d", false},
		{0, "~d", false}, {4, "~d ~d", false},
		{0, "+b", true}, {1, "+b", true}, {2, "-b/x +b", false}, {1, "-b/x +b", true}, {1, "-b/x", true}, {2, "-b/x", false},
		{2, "+c", true}, {3, "+c", true}, {4, "+c", false},
		{0, "+e", false}, {0, "+e/a", false}, {1, "+e ~e ~e -e +e", false}, {1, "+e -b/x +e", true},
	} {
		h := begun(t, "a b d", commits...)
		q := queue.New(h, 1)
		submits(t, q, request(1, c.base, c.text), api.OK)
		if c.want {
			steps(t, q, true, conflict(1))
		} else {
			steps(t, q, true, landed(1, 5))
		}
		q = queue.New(begun(t, "a b d", commits...), 1)
		submits(t, q, request(1, c.base, c.text), api.OK)
		if c.want { // also where its presubmit says no
			steps(t, q, false, conflict(1))
		} else {
			steps(t, q, false, flaked(1))
		}
		if head := q.History().Head(); head != 4 {
			t.Errorf("%s of %d: Head = %d", c.text, c.base, head)
		}
	}
}

// TestChangedWhileItWaited asks it of what others commit, to the history and to the queue, and of what the queue commits.
func TestChangedWhileItWaited(t *testing.T) {
	h := begun(t, "a b c d")
	q := queue.New(h, 10)
	for id, text := range []string{1: "~d=1", 2: "~a=2", 3: "~b=3", 4: "~c=4", 5: "~d=5", 6: "~c=6 ~d=6"} {
		if id > 0 {
			submits(t, q, request(id, 0, text), api.OK)
		}
	}
	commitsOne(t, h, "~a=other")
	if r, e := q.Commit(deltas("~b=other")...); r != 2 || e != api.OK {
		t.Errorf("Commit = %d, %d", r, e)
	}
	steps(t, q, true, landed(1, 3))
	steps(t, q, true, conflict(2))
	steps(t, q, true, conflict(3))
	steps(t, q, true, landed(4, 4))
	steps(t, q, true, conflict(5))
	steps(t, q, true, conflict(6))
	submits(t, q, request(7, 3, "~c=7"), api.OK)
	submits(t, q, request(8, 4, "~c=8"), api.OK)
	steps(t, q, true, conflict(7))
	steps(t, q, true, landed(8, 5))
	rests(t, q)
	if u, e := h.At(5); e != api.OK || tell(asAdds(u)) != tell(deltas("+a=other +b=other +c=8 +d=1")) {
		t.Errorf("At(5) = %s, %d", tell(asAdds(u)), e)
	}
}

// asAdds answers the files of t as changes, so that they can be told.
func asAdds(t api.Tree) []api.Delta {
	var l []api.Delta
	for _, f := range t {
		l = append(l, api.Delta{Kind: api.Add, Path: f.Path, Body: f.Body})
	}
	return l
}

// TestRefused asks for each error of a commit: nothing is committed, and Flaked is told ahead of it.
func TestRefused(t *testing.T) {
	long := string(make([]byte, api.MaxBody+1))
	for _, c := range []struct {
		l    []api.Delta
		want api.Errno
	}{
		{deltas("?a"), api.ErrArg},
		{deltas("~a=1 ?a"), api.ErrArg},
		{deltas("+a"), api.ErrThere},
		{deltas("+x +x"), api.ErrThere},
		{deltas("~x"), api.ErrNone},
		{deltas("-a -a"), api.ErrNone},
		{deltas("+a/x"), api.ErrPath},
		{deltas("+x/../y"), api.ErrArg},
		{[]api.Delta{{Kind: api.Modify, Path: "a", Body: []byte(long)}}, api.ErrLong},
		{deltas("+x ~a=1 -y"), api.ErrNone},
	} {
		h := begun(t, "a=0")
		q := queue.New(h, 2)
		submits(t, q, api.Request{ID: 1, L: c.l}, api.OK)
		submits(t, q, api.Request{ID: 2, L: c.l}, api.OK)
		steps(t, q, false, flaked(1))
		steps(t, q, true, refused(2, c.want))
		if u, e := h.At(h.Head()); h.Head() != 0 || e != api.OK || tell(asAdds(u)) != `1 a="0"` {
			t.Errorf("%s: At(%d) = %s, %d", tell(c.l), h.Head(), tell(asAdds(u)), e)
		}
		submits(t, q, request(3, 0, "~a"), api.OK) // what was refused has changed nothing
		steps(t, q, true, landed(3, 1))
	}
}

// TestNoMoreRevisions asks it of a history that is full.
func TestNoMoreRevisions(t *testing.T) {
	h := begun(t, "a b")
	l := deltas("~a")
	for range api.MaxRevs - 1 {
		h.Commit(l...)
	}
	q := queue.New(h, 4)
	submits(t, q, request(1, api.MaxRevs-1, "~a"), api.OK)
	steps(t, q, true, landed(1, api.MaxRevs))
	submits(t, q, request(2, api.MaxRevs+1, "~b"), api.ErrFuture)
	submits(t, q, request(2, api.MaxRevs, "~b"), api.OK)
	submits(t, q, request(3, 0, "~b"), api.OK)
	submits(t, q, request(4, api.MaxRevs-1, "~b ~a"), api.OK)
	steps(t, q, true, refused(2, api.ErrLong))
	steps(t, q, false, flaked(3))
	steps(t, q, true, conflict(4))
}

// TestHistory asks for the very history that was handed in, and for its calls, that the queue has too.
func TestHistory(t *testing.T) {
	h := begun(t, "a=0 b=0", "~a=1")
	q := queue.New(h, 1)
	if q.History() != h {
		t.Error("another history")
	}
	commitsOne(t, h, "~b=2")
	submits(t, q, request(1, 2, "~a=3"), api.OK)
	steps(t, q, true, landed(1, 3))
	if h.Head() != 3 || q.Head() != 3 || q.Last("a") != 3 || q.Last("b") != 2 || !slices.Equal(q.Since(2, "b", "a"), []string{"a"}) {
		t.Errorf("Head = %d, %d; Last = %d, %d", h.Head(), q.Head(), q.Last("a"), q.Last("b"))
	}
	if l, e := q.Deltas(3); e != api.OK || tell(l) != `2 a="3"` {
		t.Errorf("Deltas(3) = %s, %d", tell(l), e)
	}
	if u, e := q.At(3); e != api.OK || tell(asAdds(u)) != `1 a="3", 1 b="2"` {
		t.Errorf("At(3) = %s, %d", tell(asAdds(u)), e)
	}
	c := q.Copy() // of the history: no queue has it
	commitsOne(t, c, "-a")
	submits(t, q, request(2, 4, "-b"), api.ErrFuture)
	submits(t, q, request(2, 3, "-a"), api.OK)
	steps(t, q, true, landed(2, 4))
}

// TestTwoQueues asks that two of one history know nothing of one another but what is committed.
func TestTwoQueues(t *testing.T) {
	h := begun(t, "a b")
	one, two := queue.New(h, 1), queue.New(h, 1)
	submits(t, one, request(1, 0, "~a=1"), api.OK)
	submits(t, two, request(1, 0, "~b=2"), api.OK)
	waits(t, one, 1)
	steps(t, two, true, landed(1, 1))
	submits(t, two, request(2, 0, "~a=3"), api.OK)
	waits(t, one, 1)
	if a, is := one.Ask(1); is || a != (api.Answer{}) {
		t.Errorf("Ask(1) = %v, %t", a, is)
	}
	steps(t, one, true, landed(1, 2))
	steps(t, two, true, conflict(2))
	rests(t, one)
	rests(t, two)
}

func TestNone(t *testing.T) {
	for what, q := range map[string]*queue.Queue{"nil": nil, "of nil": queue.New(nil, 3), "zero": {}} {
		for _, r := range []api.Request{{}, request(1, 0, "+a"), request(1, -1, "+a"), request(-1, 5, ""), request(1, 0, "")} {
			if e := q.Submit(r); e != api.ErrNil {
				t.Errorf("%s: Submit(%v) = %d", what, r, e)
			}
		}
		rests(t, q)
		for _, id := range []int{-1, 0, 1} {
			if a, is := q.Ask(id); is || a != (api.Answer{}) {
				t.Errorf("%s: Ask(%d) = %v, %t", what, id, a, is)
			}
		}
		if q.History() != nil {
			t.Errorf("%s: a history", what)
		}
	}
}

// TestZeroHistory asks it of a history that New did not make: it is as one of no file.
func TestZeroHistory(t *testing.T) {
	q := queue.New(&history.History{}, 2)
	submits(t, q, request(1, 1, "+a"), api.ErrFuture)
	submits(t, q, request(1, 0, "+a"), api.OK)
	submits(t, q, request(2, 0, "+a"), api.OK)
	steps(t, q, true, landed(1, 1))
	steps(t, q, true, conflict(2))
}

// TestGreat asks it of Requests of many Deltas: of one path, and of all others.
func TestGreat(t *testing.T) {
	const n = 300000
	for _, many := range []bool{false, true} {
		h := begun(t, "a", "~a")
		q := queue.New(h, 3)
		l := make([]api.Delta, n)
		for i := range l {
			l[i] = api.Delta{Kind: api.Modify, Path: "b"}
			if many {
				l[i].Path = fmt.Sprintf("b%d", i)
			}
		}
		submits(t, q, api.Request{ID: 1, Base: 1, L: l}, api.OK)
		l[n-1].Path = "a"
		submits(t, q, api.Request{ID: 2, Base: 1, L: l}, api.OK)
		submits(t, q, api.Request{ID: 3, L: l}, api.OK)
		steps(t, q, true, refused(1, api.ErrNone))
		steps(t, q, false, flaked(2))
		steps(t, q, true, conflict(3))
	}
}
