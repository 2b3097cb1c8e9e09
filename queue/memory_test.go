package queue_test

import (
	"slices"
	"testing"

	"quilter/api"
	"quilter/queue"
)

// spoilDeltas writes over all that l has, over their bodies, and over the room behind.
func spoilDeltas(l []api.Delta) {
	for i := range l[:cap(l)] {
		b := l[:cap(l)][i].Body
		for j := range b[:cap(b)] {
			b[:cap(b)][j] = '!'
		}
		l[:cap(l)][i] = api.Delta{Path: "!"}
	}
}

// TestKeepsNothing hands in what is written over while it waits: what lands is what was handed in.
func TestKeepsNothing(t *testing.T) {
	h := begun(t, "a=0 b=0")
	q := queue.New(h, 2)
	all := deltas("~a=one +c=two -b ~a=behind")
	all[1].Body = all[0].Body[:2:3] // of one array
	r := api.Request{ID: 1, L: all[:3]}
	was := tell(all)
	submits(t, q, r, api.OK)
	if tell(all) != was || r.ID != 1 || r.Base != 0 || len(r.L) != 3 {
		t.Errorf("what was handed in is %s", tell(all))
	}
	spoilDeltas(all)
	r.ID, r.Base = 9, 9
	waits(t, q, 1)
	steps(t, q, true, landed(1, 1))
	if l, e := h.Deltas(1); e != api.OK || tell(l) != `2 a="one", 1 c="on", 3 b=""` {
		t.Errorf("Deltas(1) = %s, %d", tell(l), e)
	}
	if u, e := h.At(1); e != api.OK || tell(asAdds(u)) != `1 a="one", 1 c="on"` {
		t.Errorf("At(1) = %s, %d", tell(asAdds(u)), e)
	}
}

// TestStepChangesNothing asks it of what was handed in, while it is answered, in each way.
func TestStepChangesNothing(t *testing.T) {
	h := begun(t, "a=0")
	q := queue.New(h, 4)
	all := deltas("~a=1 +b=2 ~a=behind")
	was := tell(all)
	for id := range 4 {
		submits(t, q, api.Request{ID: id + 1, L: all[:2]}, api.OK)
	}
	steps(t, q, false, flaked(1))
	steps(t, q, true, landed(2, 1))
	steps(t, q, true, conflict(3))
	if tell(all) != was {
		t.Errorf("what was handed in is %s", tell(all))
	}
	submits(t, q, api.Request{ID: 5, Base: 1, L: all[:2]}, api.OK)
	steps(t, q, true, conflict(4))
	steps(t, q, true, refused(5, api.ErrThere))
	if tell(all) != was {
		t.Errorf("what was handed in is %s", tell(all))
	}
}

// TestWaitsSharesNothing writes over what comes out: neither another answer nor the queue may show it.
func TestWaitsSharesNothing(t *testing.T) {
	q := queue.New(begun(t, "a"), 5)
	for id := 1; id <= 3; id++ {
		submits(t, q, request(id, 0, "~a"), api.OK)
	}
	one, two := q.Waits(), q.Waits()
	clear(one[:cap(one)])
	if !slices.Equal(two, []int{1, 2, 3}) {
		t.Errorf("Waits = %v", two)
	}
	clear(two[:cap(two)])
	waits(t, q, 1, 2, 3)
	three := q.Waits()
	submits(t, q, request(4, 0, "~a"), api.OK)
	steps(t, q, true, landed(1, 1))
	steps(t, q, true, conflict(2))
	if !slices.Equal(three, []int{1, 2, 3}) {
		t.Errorf("Waits, told ahead = %v", three)
	}
	waits(t, q, 3, 4)
}
