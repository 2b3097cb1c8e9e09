package frame_test

import (
	"bytes"
	"slices"
	"testing"

	"quilter/api"
	"quilter/frame"
)

// spoil writes over all that b has, and over the room behind it.
func spoil(b []byte) {
	for i := range b[:cap(b)] {
		b[:cap(b)][i] = '!'
	}
}

// deep answers a list that shares nothing with l.
func deep(l [][]byte) [][]byte {
	var all [][]byte
	for _, b := range l {
		all = append(all, bytes.Clone(b))
	}
	return all
}

// within answers frames of one, of nothing, and of two, as a piece of an array, and that array, with other bytes on both sides.
func within() (f []byte, all []byte) {
	f = slices.Concat(plainFrame([]byte("one")), plainFrame(nil), plainFrame([]byte("two")))
	all = slices.Concat([]byte("ahead"), f, []byte("behind"))
	return all[5 : 5+len(f)], all
}

// calls are all calls, each on bytes that are frames; what comes out is a list of lists.
var calls = map[string]func([]byte) [][]byte{
	"Num": func(b []byte) [][]byte { return [][]byte{frame.Num(frame.Get(b), 8)} },
	"Encode": func(b []byte) [][]byte {
		f, _ := frame.Encode(b)
		return [][]byte{f}
	},
	"Next": func(b []byte) [][]byte {
		x, _ := frame.Next(b)
		return [][]byte{x}
	},
	"All": func(b []byte) [][]byte {
		l, _ := frame.All(b)
		return l
	},
	"All of one cut short": func(b []byte) [][]byte {
		l, _ := frame.All(b[:len(b)-1])
		return l
	},
	"Join of one": func(b []byte) [][]byte {
		f, _ := frame.Join(b)
		return [][]byte{f}
	},
	"Join": func(b []byte) [][]byte {
		f, _ := frame.Join(b, nil, b[:3], b)
		return [][]byte{f}
	},
	"Join with an error": func(b []byte) [][]byte {
		f, _ := frame.Join(b, make([]byte, api.MaxFrame+1))
		return [][]byte{f}
	},
}

// TestMemory asks of each call: what was handed in stays, with what lies around it, and what comes out is shared with nothing.
func TestMemory(t *testing.T) {
	for name, call := range calls {
		f, all := within()
		was := bytes.Clone(all)
		first, second := call(f), call(f)
		want := deep(second)
		if !sameLists(first, want) {
			t.Errorf("%s: once %q, then %q", name, first, want)
		}
		for len(first) > 0 {
			rest := deep(first[1:])
			spoil(first[0])
			first = first[1:]
			if !sameLists(first, rest) {
				t.Errorf("%s: what comes out shares with itself", name)
			}
		}
		clear(first[:cap(first)])
		if !sameLists(second, want) {
			t.Errorf("%s: two answers share", name)
		}
		if !bytes.Equal(all, was) {
			t.Errorf("%s: what was handed in is %q", name, all)
		}
		spoil(all)
		if !sameLists(second, want) {
			t.Errorf("%s: what comes out shares with what was handed in", name)
		}
	}
}

// TestPiecesStay asks it of the list of pieces itself.
func TestPiecesStay(t *testing.T) {
	one, two := []byte("one"), []byte("two")
	l := [][]byte{one, nil, two, []byte("behind")}
	if f, e := frame.Join(l[:3]...); len(f) != 30 || e != api.OK {
		t.Errorf("Join = %d bytes, %d", len(f), e)
	}
	if &l[0][0] != &one[0] || l[1] != nil || &l[2][0] != &two[0] || string(l[3]) != "behind" || string(one) != "one" || string(two) != "two" {
		t.Errorf("what was handed in is %q", l)
	}
}

// TestGoesOn appends to what came out: nothing else may change by it.
func TestGoesOn(t *testing.T) {
	f, all := within()
	was := bytes.Clone(all)
	x, _ := frame.Next(f)
	l, _ := frame.All(f)
	want := deep(l)
	for i := range l {
		_ = append(l[i], "more bytes than there is room for"...)
		_ = append(l[i], 'm')
	}
	_ = append(x, 'm')
	if !bytes.Equal(all, was) || !sameLists(l, want) || string(x) != "one" {
		t.Errorf("what was handed in is %q; All = %q, Next = %q", all, l, x)
	}
}

// TestKeepsNothing asks that no call knows of those ahead of it.
func TestKeepsNothing(t *testing.T) {
	f, _ := within()
	for range 2 {
		if l, n := frame.All(f); len(l) != 3 || n != len(f) {
			t.Errorf("All = %q, %d", l, n)
		}
		if l, n := frame.All(f[1:]); len(l) != 0 || n != 0 {
			t.Errorf("All of no frame = %q, %d", l, n)
		}
	}
	spoil(f[:4])
	if x, n := frame.Next(f); len(x) != 0 || n != 0 {
		t.Errorf("Next = %q, %d", x, n)
	}
}
