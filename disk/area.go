package disk

import (
	"bytes"
	"slices"
)

// content is bytes that grow, and are cut.
type content []byte

func (c content) size() int      { return len(c) }
func (c content) tell() []byte   { return bytes.Clone(c) }
func (c *content) grow(b []byte) { *c = append(*c, b...) }
func (c *content) cut(n int)     { *c = (*c)[:n] }

// step is what was done to content by one call. It is never changed, so that several areas may have it.
type step interface {
	count() int           // of how many things it is: each byte is one, and each cut
	do(c *content, n int) // does the first n of them
}

// growth is a step: bytes that were laid behind.
type growth []byte

func (g growth) count() int           { return len(g) }
func (g growth) do(c *content, n int) { c.grow(g[:n]) }

// cutting is a step: how many bytes were left.
type cutting int

func (k cutting) count() int { return 1 }

func (k cutting) do(c *content, n int) {
	if n > 0 {
		c.cut(int(k))
	}
}

// area is what is read, which is what lasts behind all that is pending.
type area struct {
	content
	lasts   content
	pending []step
}

// change does s to what is read.
func (a *area) change(s step) {
	s.do(&a.content, s.count())
	a.pending = append(a.pending, s)
}

// settle does the first keep of what is pending to what lasts; the rest is forgotten.
func (a *area) settle(keep int) {
kept:
	for _, s := range a.pending {
		switch n := s.count(); {
		case n > keep:
			s.do(&a.lasts, keep)
			break kept
		default:
			s.do(&a.lasts, n)
			keep -= n
		}
	}
	a.pending = nil
}

// restart settles likewise; what lasts then is what is read.
func (a *area) restart(keep int) {
	a.settle(keep)
	a.cut(0)
	a.grow(a.lasts)
}

// copy answers another area that is the same.
func (a *area) copy() area {
	return area{content: a.tell(), lasts: a.lasts.tell(), pending: slices.Clone(a.pending)}
}
