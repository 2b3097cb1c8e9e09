package queue_test

import (
	"fmt"
	"math/rand"
	"slices"
	"strings"
	"testing"

	"quilter/api"
	"quilter/history"
	"quilter/queue"
	"quilter/tree"
)

// plain says the chapter's words over again: it keeps each revision whole, all Requests that were taken, and how they were answered.
type plain struct {
	trees []api.Tree
	made  [][]api.Delta
	room  int
	taken []api.Request
	told  []api.Answer // of the first ones that were taken
}

// commit says history's words.
func (p *plain) commit(l []api.Delta) (int, api.Errno) {
	if len(l) == 0 {
		return 0, api.ErrArg
	}
	t, e := tree.Apply(p.trees[len(p.trees)-1], l...)
	if e != api.OK {
		return 0, e
	}
	p.trees, p.made = append(p.trees, t), append(p.made, l)
	return len(p.trees) - 1, api.OK
}

func (p *plain) submit(r api.Request) api.Errno {
	if r.ID < 1 || len(r.L) == 0 {
		return api.ErrArg
	}
	if r.Base < 0 || r.Base >= len(p.trees) {
		return api.ErrFuture
	}
	for _, other := range p.taken {
		if other.ID == r.ID {
			return api.ErrTwice
		}
	}
	if len(p.taken)-len(p.told) == p.room {
		return api.ErrFull
	}
	p.taken = append(p.taken, r)
	return api.OK
}

// changed tells whether a revision behind r changed one of the paths that l has.
func (p *plain) changed(r int, l []api.Delta) bool {
	for _, made := range p.made[r+1:] {
		for _, d := range made {
			for _, x := range l {
				if x.Path == d.Path {
					return true
				}
			}
		}
	}
	return false
}

func (p *plain) step(pass bool) (api.Answer, bool) {
	if len(p.told) == len(p.taken) {
		return api.Answer{}, false
	}
	r := p.taken[len(p.told)]
	a := flaked(r.ID)
	if p.changed(r.Base, r.L) {
		a = conflict(r.ID)
	} else if pass {
		rev, e := p.commit(r.L)
		a = landed(r.ID, rev)
		if e != api.OK {
			a = refused(r.ID, e)
		}
	}
	p.told = append(p.told, a)
	return a, true
}

func (p *plain) ask(id int) (api.Answer, bool) {
	for _, a := range p.told {
		if a.ID == id {
			return a, true
		}
	}
	return api.Answer{}, false
}

func (p *plain) waits() []int {
	var l []int
	for _, r := range p.taken[len(p.told):] {
		l = append(l, r.ID)
	}
	return l
}

// pair is a queue and the plain one.
type pair struct {
	h *history.History
	q *queue.Queue
	p *plain
}

func newPair(first string, room int) pair {
	h, _ := history.New(files(first))
	return pair{h: h, q: queue.New(h, room), p: &plain{trees: []api.Tree{files(first)}, made: [][]api.Delta{nil}, room: room}}
}

// agrees answers what can be asked of both, and differs; nothing, if there is no such thing.
func (x pair) agrees(ids int) string {
	if l := x.q.Waits(); !slices.Equal(l, x.p.waits()) {
		return fmt.Sprintf("Waits = %v; want %v", l, x.p.waits())
	}
	for id := -1; id <= ids; id++ {
		a, is := x.q.Ask(id)
		if want, was := x.p.ask(id); a != want || is != was {
			return fmt.Sprintf("Ask(%d) = %v, %t; want %v, %t", id, a, is, want, was)
		}
	}
	head := len(x.p.trees) - 1
	if x.q.History() != x.h || x.h.Head() != head {
		return fmt.Sprintf("Head = %d; want %d", x.h.Head(), head)
	}
	return ""
}

// whole answers what the revisions of both have that differs.
func (x pair) whole() string {
	for r := range x.p.trees {
		if t, e := x.h.At(r); e != api.OK || !tree.Same(t, x.p.trees[r]) {
			return fmt.Sprintf("At(%d) = %s, %d", r, tell(asAdds(t)), e)
		}
		if l, e := x.h.Deltas(r); e != api.OK || tell(l) != tell(x.p.made[r]) {
			return fmt.Sprintf("Deltas(%d) = %s, %d; want %s", r, tell(l), e, tell(x.p.made[r]))
		}
	}
	return x.once()
}

// once answers which Request landed twice, or otherwise than it asked for; nothing, if none did.
func (x pair) once() string {
	at := map[int]int{}
	for _, r := range x.p.taken {
		a, is := x.q.Ask(r.ID)
		if !is || a.Kind != api.Landed {
			continue
		}
		if at[a.Rev] > 0 {
			return fmt.Sprintf("%d and %d landed at %d", at[a.Rev], r.ID, a.Rev)
		}
		at[a.Rev] = r.ID
		if l, _ := x.h.Deltas(a.Rev); tell(l) != tell(r.L) {
			return fmt.Sprintf("%d landed as %s; want %s", r.ID, tell(l), tell(r.L))
		}
		for _, d := range r.L { // nothing of it was changed between its base and where it landed
			for rev := r.Base + 1; rev < a.Rev; rev++ {
				if l, _ := x.h.Deltas(rev); slices.ContainsFunc(l, func(other api.Delta) bool { return other.Path == d.Path }) {
					return fmt.Sprintf("%d landed behind a change of %s at %d", r.ID, d.Path, rev)
				}
			}
		}
	}
	return ""
}

// act is one call, of both; it answers what differs.
type act struct {
	name string
	do   func(pair) string
}

// submitting submits one whose base is so far behind the head.
func submitting(id int, behind int, text string) act {
	return act{fmt.Sprintf("Submit(%d, Head-%d, %s)", id, behind, text), func(x pair) string {
		r := request(id, x.h.Head()-behind, text)
		e, want := x.q.Submit(r), x.p.submit(r)
		if e != want {
			return fmt.Sprintf("%d; want %d", e, want)
		}
		return ""
	}}
}

func stepping(pass bool) act {
	return act{fmt.Sprintf("Step(%t)", pass), func(x pair) string {
		a, is := x.q.Step(pass)
		want, was := x.p.step(pass)
		if a != want || is != was {
			return fmt.Sprintf("%v, %t; want %v, %t", a, is, want, was)
		}
		return ""
	}}
}

// committing is what others do.
func committing(text string) act {
	return act{"Commit(" + text + ")", func(x pair) string {
		r, e := x.h.Commit(deltas(text)...)
		if rev, f := x.p.commit(deltas(text)); r != rev || e != f {
			return fmt.Sprintf("%d, %d; want %d, %d", r, e, rev, f)
		}
		return ""
	}}
}

// does does all of a row, and tells whether nothing differs.
func does(t *testing.T, x pair, ids int, row []act) bool {
	t.Helper()
	for i, a := range row {
		what := a.do(x)
		if what == "" {
			what = x.agrees(ids)
		}
		if what != "" {
			var names []string
			for _, a := range row[:i+1] {
				names = append(names, a.name)
			}
			t.Errorf("%s: %s", strings.Join(names, "; "), what)
			return false
		}
	}
	if what := x.whole(); what != "" {
		t.Errorf("behind all: %s", what)
		return false
	}
	return true
}

// TestAllShortRows holds all rows of five acts against the plain words, in queues with room for one, and for two.
func TestAllShortRows(t *testing.T) {
	acts := []act{
		submitting(1, 0, "~a=1"), submitting(1, 1, "+b=1"), submitting(2, 0, "-a"), submitting(2, 1, "~a=2 +b=2"), submitting(3, 0, "+b=3"),
		submitting(4, 0, ""), submitting(4, -1, "+b"),
		stepping(true), stepping(false), committing("~a=x"), committing("+b=x"),
	}
	row := make([]act, 5)
	var walk func(deep int) bool
	walk = func(deep int) bool {
		if deep == len(row) {
			return does(t, newPair("a", 1), 4, row) && does(t, newPair("a", 2), 4, row)
		}
		for _, a := range acts {
			row[deep] = a
			if !walk(deep + 1) {
				return false
			}
		}
		return true
	}
	walk(0)
}

// drawnText answers up to three drawn changes.
func drawnText(r *rand.Rand) string {
	var l []string
	for range 1 + r.Intn(3) {
		l = append(l, string("+~~-"[r.Intn(4)])+string("abcdefgh"[r.Intn(8)])+fmt.Sprintf("=%d", r.Intn(100)))
	}
	if r.Intn(60) == 0 {
		return ""
	}
	return strings.Join(l, " ")
}

// drawnAct answers one, of IDs up to the given one.
func drawnAct(r *rand.Rand, ids int) act {
	switch k := r.Intn(20); {
	case k < 9:
		behind := r.Intn(4)
		if r.Intn(20) == 0 {
			behind = r.Intn(40) - 5
		}
		return submitting(r.Intn(ids+1), behind, drawnText(r))
	case k < 11:
		return committing(drawnText(r))
	}
	return stepping(r.Intn(5) > 0)
}

// TestLongRows holds long drawn rows of acts against the plain words.
func TestLongRows(t *testing.T) {
	r := rand.New(rand.NewSource(13))
	for range 3000 {
		ids := 5 + r.Intn(60)
		row := make([]act, 60)
		for i := range row {
			row[i] = drawnAct(r, ids)
		}
		if !does(t, newPair("a=0 c=0 e=0 g=0", 1+r.Intn(5)), ids, row) {
			return
		}
	}
}
