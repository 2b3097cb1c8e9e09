package journal_test

import (
	"bytes"
	"encoding/binary"
	"hash/crc32"
	"slices"
	"strconv"
	"testing"

	"quilter/api"
	"quilter/disk"
	"quilter/journal"
)

// framed says the words of a frame over again.
func framed(b []byte) []byte {
	size := binary.BigEndian.AppendUint32(nil, uint32(len(b)))
	sum := crc32.ChecksumIEEE(slices.Concat(size, b))
	return slices.Concat(binary.BigEndian.AppendUint32(size, sum), b)
}

// numbered is the frame of a number and of a text: a slot, or a record.
func numbered(n uint64, s string) []byte {
	return framed(append(binary.BigEndian.AppendUint64(nil, n), s...))
}

// plainFrames answers what is in each frame that b begins with.
func plainFrames(b []byte) [][]byte {
	var l [][]byte
	for len(b) >= 8 {
		n := int64(binary.BigEndian.Uint32(b)) + 8
		if n > api.MaxFrame+8 || n > int64(len(b)) || !bytes.Equal(framed(b[8:n]), b[:n]) {
			break
		}
		l, b = append(l, b[8:n]), b[n:]
	}
	return l
}

// plain says the chapter's words over again, on a disk of its own.
type plain struct {
	d   *disk.Disk
	seq uint64
}

func plainOpen(d *disk.Disk) (*plain, string, []string, api.Errno) {
	if d.Dead() {
		return nil, "", nil, api.ErrDead
	}
	var good []int // slots
	var nums [2]uint64
	var states [2]string
	for a := range 2 {
		if l := plainFrames(d.Read(a)); len(l) > 0 && len(l[0]) >= 8 {
			good, nums[a], states[a] = append(good, a), binary.BigEndian.Uint64(l[0]), string(l[0][8:])
		}
	}
	var seq uint64
	var state string
	switch {
	case len(good) == 1:
		seq, state = nums[good[0]], states[good[0]]
	case len(good) == 2 && nums[1] > nums[0]:
		seq, state = nums[1], states[1]
	case len(good) == 2:
		seq, state = nums[0], states[0]
	}
	var recs []string
	size := 0
	for _, b := range plainFrames(d.Read(2)) {
		if len(b) < 8 || binary.BigEndian.Uint64(b) != seq {
			break
		}
		recs = append(recs, string(b[8:]))
		size += 8 + len(b)
	}
	if len(d.Read(2)) > size {
		if e := d.Cut(2, size); e != api.OK {
			return nil, "", nil, e
		}
		if e := d.Sync(2); e != api.OK {
			return nil, "", nil, e
		}
	}
	return &plain{d, seq}, state, recs, api.OK
}

func (p *plain) append(rec string) api.Errno {
	if len(rec) > 65528 {
		return api.ErrLong
	}
	return p.d.Append(2, numbered(p.seq, rec))
}

func (p *plain) checkpoint(state string) api.Errno {
	if len(state) > 65528 {
		return api.ErrLong
	}
	slot := int((p.seq + 1) % 2)
	if e := p.d.Cut(slot, 0); e != api.OK {
		return e
	}
	if e := p.d.Append(slot, numbered(p.seq+1, state)); e != api.OK {
		return e
	}
	if e := p.d.Sync(slot); e != api.OK {
		return e
	}
	p.seq++
	if e := p.d.Cut(2, 0); e != api.OK {
		return e
	}
	return p.d.Sync(2)
}

// pair is a journal and the plain one, each with a disk of its own; both have no journal, where Open told an error last.
type pair struct {
	d *disk.Disk
	j *journal.Journal
	p *plain
	q *disk.Disk // of p
}

func newPair(areas int, room int) pair {
	return pair{d: disk.New(areas, room), q: disk.New(areas, room)}
}

// copy answers another pair that goes on by itself.
func (x pair) copy() pair {
	c := pair{d: x.d.Copy(), q: x.q.Copy()}
	if x.j != nil {
		j, p := *x.j, *x.p
		j.Disk, p.d = c.d, c.q
		c.j, c.p = &j, &p
	}
	return c
}

// agrees tells whether all that can be asked of both is the same.
func (x pair) agrees(t *testing.T, what string) bool {
	t.Helper()
	good := x.d.Dead() == x.q.Dead() && (x.j == nil) == (x.p == nil)
	if good && x.j != nil {
		good = x.j.Seq() == x.p.seq && x.j.Used() == len(x.q.Read(2))
	}
	for a := range api.MaxAreas {
		good = good && bytes.Equal(x.d.Read(a), x.q.Read(a)) && bytes.Equal(x.d.Lasting(a), x.q.Lasting(a))
	}
	if !good {
		t.Errorf("%s: dead %t, seq %d, used %d; want %t, %v", what, x.d.Dead(), x.j.Seq(), x.j.Used(), x.q.Dead(), x.p)
		for a := range 3 {
			t.Errorf("%s: area %d: read %q, lasting %q; want %q, %q", what, a, x.d.Read(a), x.d.Lasting(a), x.q.Read(a), x.q.Lasting(a))
		}
	}
	return good
}

// same tells whether two rows of records are the same.
func same(got [][]byte, want []string) bool {
	return slices.EqualFunc(got, want, func(b []byte, s string) bool { return string(b) == s })
}

// open opens both.
func (x *pair) open(t *testing.T, what string) bool {
	t.Helper()
	var state, want string
	var recs []string
	var f api.Errno
	j, s, l, e := journal.Open(x.d)
	x.j, state = j, string(s)
	x.p, want, recs, f = plainOpen(x.q)
	if e != f || state != want || !same(l, recs) {
		t.Errorf("%s = %q, %q, %d; want %q, %q, %d", what, state, l, e, want, recs, f)
		return false
	}
	return x.agrees(t, what)
}

// act is one call, of both.
type act struct {
	name string
	do   func(*testing.T, string, *pair) bool
}

// both makes an act of calls of both journals, which are left out where there is none.
func both(name string, of func(*journal.Journal) api.Errno, as func(*plain) api.Errno) act {
	return act{name, func(t *testing.T, what string, x *pair) bool {
		t.Helper()
		if x.j == nil {
			return true
		}
		got, want := of(x.j), as(x.p)
		if got != want {
			t.Errorf("%s = %d; want %d", what, got, want)
		}
		return got == want && x.agrees(t, what)
	}}
}

// raw makes an act of a call of both disks.
func raw(name string, of func(*disk.Disk)) act {
	return act{name, func(t *testing.T, what string, x *pair) bool {
		t.Helper()
		of(x.d)
		of(x.q)
		return x.agrees(t, what)
	}}
}

func opening() act {
	return act{"Open", func(t *testing.T, what string, x *pair) bool { return x.open(t, what) }}
}

func appending(rec string) act {
	return both("Append "+strconv.Quote(rec[:min(len(rec), 20)]), func(j *journal.Journal) api.Errno { return j.Append([]byte(rec)) }, func(p *plain) api.Errno { return p.append(rec) })
}

func syncing() act {
	return both("Sync", func(j *journal.Journal) api.Errno { return j.Sync() }, func(p *plain) api.Errno { return p.d.Sync(2) })
}

func checkpointing(state string) act {
	return both("Checkpoint "+strconv.Quote(state[:min(len(state), 20)]), func(j *journal.Journal) api.Errno { return j.Checkpoint([]byte(state)) }, func(p *plain) api.Errno { return p.checkpoint(state) })
}

func arming(n int) act {
	return raw("Arm "+strconv.Itoa(n), func(d *disk.Disk) { d.Arm(n) })
}

func restarting(keep int) act {
	return raw("Restart "+strconv.Itoa(keep), func(d *disk.Disk) { d.Restart(keep) })
}

// laying lays bytes behind an area's, without the journal.
func laying(a int, b []byte) act {
	return raw("laying "+strconv.Quote(string(b[:min(len(b), 40)]))+" to "+strconv.Itoa(a), func(d *disk.Disk) { d.Append(a, b) })
}

// cutting leaves so many bytes of an area, without the journal.
func cutting(a int, n int) act {
	return raw("cutting "+strconv.Itoa(a)+" to "+strconv.Itoa(n), func(d *disk.Disk) { d.Cut(a, n) })
}

// walk does all rows of so many acts, each one to a copy.
func walk(t *testing.T, row string, x pair, l []act, deep int) bool {
	if deep == 0 {
		return true
	}
	for _, a := range l {
		c := x.copy()
		what := row + "; " + a.name
		if !a.do(t, what, &c) || !walk(t, what, c, l, deep-1) {
			return false
		}
	}
	return x.agrees(t, row+", behind its copies")
}

// TestAllShortRows holds all rows of four acts against the plain words, from an empty disk on, and from one with a state and a record.
func TestAllShortRows(t *testing.T) {
	acts := []act{
		opening(), appending("ab"), appending(""), syncing(), checkpointing("s"), checkpointing(""), arming(0), arming(20), restarting(0), restarting(17),
		laying(0, numbered(4, "four")), laying(1, numbered(4, "also")), laying(2, numbered(1, "one")), laying(2, []byte("junk")), cutting(0, 3), cutting(1, 0), cutting(2, 18),
	}
	for _, room := range []int{100, 40} {
		x := newPair(3, room)
		x.open(t, "Open")
		if !walk(t, "empty", x, acts, 4) {
			return
		}
		for _, a := range []act{checkpointing("old"), appending("rec"), syncing()} {
			a.do(t, "ahead", &x)
		}
		if !walk(t, "not empty", x, acts, 4) {
			return
		}
	}
}
