package disk_test

import (
	"bytes"
	"slices"
	"strconv"
	"testing"

	"quilter/api"
	"quilter/disk"
)

// plain says the chapter's words over again: of each area what lasts, and what is pending, thing by thing; what is read is worked out of these.
type plain struct {
	room  int
	lasts [][]byte
	pends [][]int // a byte, or -1-n for a cut to n
	units int     // below 0: there is no end of power
	dead  bool
}

func newPlain(areas int, room int) *plain {
	return &plain{room: room, lasts: make([][]byte, areas), pends: make([][]int, areas), units: -1}
}

// done does things to bytes.
func done(b []byte, things []int) []byte {
	b = slices.Clone(b)
	for _, x := range things {
		if x < 0 {
			b = b[:-1-x]
		} else {
			b = append(b, byte(x))
		}
	}
	return b
}

func (p *plain) read(a int) []byte {
	if a < 0 || a >= len(p.lasts) {
		return nil
	}
	return done(p.lasts[a], p.pends[a])
}

func (p *plain) lasting(a int) []byte {
	if a < 0 || a >= len(p.lasts) {
		return nil
	}
	return p.lasts[a]
}

func (p *plain) used() int {
	n := 0
	for a := range p.lasts {
		n += len(p.read(a))
	}
	return n
}

// unit takes one, or power is lost.
func (p *plain) unit() bool {
	if p.units == 0 {
		p.dead = true
	} else if p.units > 0 {
		p.units--
	}
	return !p.dead
}

func (p *plain) refused(a int) api.Errno {
	if a < 0 || a >= len(p.lasts) {
		return api.ErrArg
	}
	if p.dead {
		return api.ErrDead
	}
	return api.OK
}

// pend does things to an area, one by one.
func (p *plain) pend(a int, things ...int) api.Errno {
	for _, x := range things {
		if !p.unit() {
			return api.ErrDead
		}
		p.pends[a] = append(p.pends[a], x)
	}
	return api.OK
}

func (p *plain) append(a int, b []byte) api.Errno {
	if e := p.refused(a); e != api.OK {
		return e
	}
	if p.used()+len(b) > p.room {
		return api.ErrFull
	}
	var things []int
	for _, c := range b {
		things = append(things, int(c))
	}
	return p.pend(a, things...)
}

func (p *plain) cut(a int, n int) api.Errno {
	if e := p.refused(a); e != api.OK {
		return e
	}
	if n < 0 || n > len(p.read(a)) {
		return api.ErrArg
	}
	return p.pend(a, -1-n)
}

func (p *plain) sync(a int) api.Errno {
	if e := p.refused(a); e != api.OK {
		return e
	}
	if !p.unit() {
		return api.ErrDead
	}
	p.lasts[a], p.pends[a] = p.read(a), nil
	return api.OK
}

func (p *plain) arm(n int) {
	if !p.dead {
		p.units = max(n, 0)
	}
}

func (p *plain) restart(keep int) {
	for a := range p.lasts {
		p.lasts[a], p.pends[a] = done(p.lasts[a], p.pends[a][:min(max(keep, 0), len(p.pends[a]))]), nil
	}
	p.units, p.dead = -1, false
}

func (p *plain) copy() *plain {
	c := *p
	c.lasts, c.pends = slices.Clone(p.lasts), slices.Clone(p.pends)
	for a := range c.lasts {
		c.lasts[a], c.pends[a] = slices.Clone(c.lasts[a]), slices.Clone(c.pends[a])
	}
	return &c
}

// act is one call, of both.
type act struct {
	name string
	of   func(*disk.Disk) api.Errno
	as   func(*plain) api.Errno
}

func appending(a int, s string) act {
	b := []byte(s)
	return act{"Append " + strconv.Itoa(a) + " " + strconv.Quote(s), func(d *disk.Disk) api.Errno { return d.Append(a, b) }, func(p *plain) api.Errno { return p.append(a, b) }}
}

func cutting(a int, n int) act {
	return act{"Cut " + strconv.Itoa(a) + " " + strconv.Itoa(n), func(d *disk.Disk) api.Errno { return d.Cut(a, n) }, func(p *plain) api.Errno { return p.cut(a, n) }}
}

func syncing(a int) act {
	return act{"Sync " + strconv.Itoa(a), func(d *disk.Disk) api.Errno { return d.Sync(a) }, func(p *plain) api.Errno { return p.sync(a) }}
}

func arming(n int) act {
	return act{"Arm " + strconv.Itoa(n), func(d *disk.Disk) api.Errno { d.Arm(n); return api.OK }, func(p *plain) api.Errno { p.arm(n); return api.OK }}
}

func restarting(keep int) act {
	return act{"Restart " + strconv.Itoa(keep), func(d *disk.Disk) api.Errno { d.Restart(keep); return api.OK }, func(p *plain) api.Errno { p.restart(keep); return api.OK }}
}

// agrees tells whether all that can be asked is as the plain words have it, from one area ahead of the first to one behind the last.
func agrees(t *testing.T, what string, d *disk.Disk, p *plain) bool {
	t.Helper()
	good := d.Used() == p.used() && d.Dead() == p.dead
	for a := -1; a <= len(p.lasts); a++ {
		good = good && bytes.Equal(d.Read(a), p.read(a)) && bytes.Equal(d.Lasting(a), p.lasting(a))
	}
	if !good {
		t.Errorf("%s: used %d, dead %t; want %d, %t", what, d.Used(), d.Dead(), p.used(), p.dead)
		for a := -1; a <= len(p.lasts); a++ {
			t.Errorf("%s: area %d: read %q, lasting %q; want %q, %q", what, a, d.Read(a), d.Lasting(a), p.read(a), p.lasting(a))
		}
	}
	return good
}

// acts does one call to both.
func acts(t *testing.T, what string, d *disk.Disk, p *plain, x act) bool {
	t.Helper()
	got, want := x.of(d), x.as(p)
	if got != want {
		t.Errorf("%s = %d; want %d", what, got, want)
	}
	return got == want && agrees(t, what, d, p)
}

// walk does all rows of so many calls: each one to a copy, so that no row may know of another one.
func walk(t *testing.T, row string, d *disk.Disk, p *plain, l []act, deep int) bool {
	if deep == 0 {
		return true
	}
	for _, x := range l {
		e, q := d.Copy(), p.copy()
		what := row + "; " + x.name
		if !acts(t, what, e, q, x) || !walk(t, what, e, q, l, deep-1) {
			return false
		}
	}
	return agrees(t, row+", behind its copies", d, p)
}

// TestAllShortRows holds all rows of four calls against the plain words, from disks of one and of two areas on.
func TestAllShortRows(t *testing.T) {
	two := []act{
		appending(0, "a"), appending(0, "bcd"), appending(1, "xy"), appending(2, "z"), cutting(0, 0), cutting(0, 1), cutting(1, 2), cutting(-1, 0),
		syncing(0), syncing(1), syncing(2), arming(0), arming(2), restarting(-1), restarting(1), restarting(3),
	}
	walk(t, "two areas", disk.New(2, 6), newPlain(2, 6), two, 4)
}

// TestAllRowsOfOneArea asks it of longer rows, with fewer calls.
func TestAllRowsOfOneArea(t *testing.T) {
	one := []act{appending(0, "ab"), appending(0, "c"), cutting(0, 1), syncing(0), arming(1), arming(3), restarting(0), restarting(2)}
	walk(t, "one area", disk.New(1, 5), newPlain(1, 5), one, 6)
}
