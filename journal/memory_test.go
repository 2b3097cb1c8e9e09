package journal_test

import (
	"bytes"
	"testing"

	"quilter/api"
	"quilter/journal"
)

// spoil writes over all that b has, and over the room behind it.
func spoil(b []byte) {
	for i := range b[:cap(b)] {
		b[:cap(b)][i] = '!'
	}
}

// TestKeepsNothing hands in a piece of an array, which is written over later: it stays as it is, and is not seen any more.
func TestKeepsNothing(t *testing.T) {
	d := laidOut(t, nil, nil, nil)
	j := opens(t, "new", d, 0, "")
	for _, call := range []func([]byte) api.Errno{j.Append, j.Checkpoint, j.Append, j.Append} {
		all := []byte("ahead, abc, behind")
		was := bytes.Clone(all)
		tells(t, "a call", call(all[7:10]), api.OK)
		if !bytes.Equal(all, was) {
			t.Errorf("what was handed in is %q", all)
		}
		spoil(all)
	}
	shows(t, "handed in", d, 1, numbered(1, "abc"), numbered(1, "abc"))
	shows(t, "handed in", d, 2, row(1, "abc", "abc"), nil)
	d.Restart(100)
	opens(t, "handed in", d, 1, "abc", "abc", "abc")
}

// TestSharesNothing writes over what comes out, and over the room behind it: nothing else may change by it.
func TestSharesNothing(t *testing.T) {
	d := laidOut(t, numbered(2, "state"), numbered(1, "older"), append(row(2, "one", "", "three"), "junk"...))
	_, s, l, _ := journal.Open(d)
	j, state, recs, e := journal.Open(d)
	if e != api.OK || len(l) != 3 {
		t.Fatal(l, e)
	}
	untouched := func(what string, from int) {
		t.Helper()
		want := []string{"one", "", "three"}
		if !same(recs, want) || !same(l[from:], want[from:]) || string(state) != "state" {
			t.Errorf("%s: %q, %q, %q", what, state, recs, l)
		}
		shows(t, what, d, 0, numbered(2, "state"), numbered(2, "state"))
		shows(t, what, d, 1, numbered(1, "older"), numbered(1, "older"))
		shows(t, what, d, 2, row(2, "one", "", "three"), row(2, "one", "", "three"))
	}
	_ = append(s, "more bytes than there is room for"...)
	_ = append(s, '!')
	untouched("appended to the state", 0)
	spoil(s)
	untouched("the state spoilt", 0)
	for i := range l {
		_ = append(l[i], '!')
		untouched("appended to a record", i)
		spoil(l[i])
		untouched("a record spoilt", i+1)
	}
	clear(l[:cap(l)])
	untouched("the list spoilt", 3)
	tells(t, "Append", j.Append([]byte("four")), api.OK)
	if !same(recs, []string{"one", "", "three"}) || string(state) != "state" {
		t.Errorf("behind Append: %q, %q", state, recs)
	}
	tells(t, "Checkpoint", j.Checkpoint([]byte("other")), api.OK)
	if !same(recs, []string{"one", "", "three"}) || string(state) != "state" {
		t.Errorf("behind Checkpoint: %q, %q", state, recs)
	}
}
