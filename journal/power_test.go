package journal_test

import (
	"math/rand"
	"slices"
	"strconv"
	"testing"

	"quilter/api"
	"quilter/disk"
	"quilter/journal"
)

// TestCheckpointByUnits asks how far it comes with so much power: the slot is cut, written and synced, then the number is one more, then the log is cut and synced.
func TestCheckpointByUnits(t *testing.T) {
	older, state, recs, other := numbered(4, "older"), numbered(5, "state"), row(5, "rec"), numbered(6, "other")
	const whole = 16 + 5
	for n := range whole + 6 {
		d := laidOut(t, older, state, recs)
		j := opens(t, "laid out", d, 5, "state", "rec")
		d.Arm(n)
		e, seq := api.ErrDead, uint64(5)
		slot, slotLasts, log, logLasts := older, older, recs, recs
		if n >= 1 {
			slot = other[:min(n-1, whole)]
		}
		if n >= whole+2 {
			slotLasts, seq = other, 6
		}
		if n >= whole+3 {
			log = nil
		}
		if n >= whole+4 {
			logLasts, e = nil, api.OK
		}
		what := "Checkpoint with power for " + strconv.Itoa(n)
		tells(t, what, j.Checkpoint([]byte("other")), e)
		if j.Seq() != seq || j.Used() != len(log) {
			t.Errorf("%s: seq %d, used %d; want %d, %d", what, j.Seq(), j.Used(), seq, len(log))
		}
		shows(t, what, d, 0, slot, slotLasts)
		shows(t, what, d, 1, state, state)
		shows(t, what, d, 2, log, logLasts)
	}
}

// TestAppendByUnits asks it of a record.
func TestAppendByUnits(t *testing.T) {
	rec := numbered(3, "rec")
	for n := range 23 {
		for keep := range 23 {
			d := laidOut(t, nil, numbered(3, "s"), row(3, "a"))
			j := opens(t, "laid out", d, 3, "s", "a")
			d.Arm(n)
			e, want := api.OK, []string{"a", "rec"}
			if n < 19 {
				e = api.ErrDead
			}
			tells(t, "Append", j.Append([]byte("rec")), e)
			shows(t, "behind Append", d, 2, append(row(3, "a"), rec[:min(n, 19)]...), row(3, "a"))
			if n < 19 || keep < 19 {
				want = want[:1]
			}
			d.Restart(keep)
			opens(t, "behind Restart", d, 3, "s", want...)
			shows(t, "behind Restart", d, 2, row(3, want...), row(3, want...))
		}
	}
}

// content is a state, and records behind it.
type content struct {
	state string
	recs  []string
}

// known is what a journal must have: what lasts, as many of the records behind it as may be there too, and the state that may stand in the place of all.
type known struct {
	content
	maybe []string
	next  *string
}

// may tells whether there may be such content when power was lost.
func (k known) may(c content) bool {
	if k.next != nil && c.state == *k.next && len(c.recs) == 0 {
		return true
	}
	all := slices.Concat(k.recs, k.maybe)
	n := len(c.recs)
	return c.state == k.state && n >= len(k.recs) && n <= len(all) && slices.Equal(c.recs, all[:n])
}

// step is one call of a journal, and what is known behind it.
type step struct {
	kind byte // a, s, c: Append, Sync, Checkpoint
	text string
}

func (s step) do(j *journal.Journal, k *known) api.Errno {
	switch s.kind {
	case 'a':
		k.maybe = append(k.maybe, s.text)
		return j.Append([]byte(s.text))
	case 's':
		e := j.Sync()
		if e == api.OK {
			k.recs, k.maybe = slices.Concat(k.recs, k.maybe), nil
		}
		return e
	}
	k.next = &s.text
	e := j.Checkpoint([]byte(s.text))
	if e == api.OK {
		*k = known{content: content{state: s.text}}
	}
	return e
}

// reads opens a journal whose power was lost, and tells what there is.
func reads(d *disk.Disk) (*journal.Journal, content, api.Errno) {
	j, s, l, e := journal.Open(d)
	c := content{state: string(s)}
	for _, rec := range l {
		c.recs = append(c.recs, string(rec))
	}
	return j, c, e
}

// TestWhatLasts loses power at each unit of a row of calls, and keeps each part of what was pending: what was synced is there, and of what was done behind it a first part; and so it is where power is lost again while the journal is opened.
func TestWhatLasts(t *testing.T) {
	steps := []step{
		{'a', "1"}, {'s', ""}, {'a', "22"}, {'a', ""}, {'s', ""}, {'a', "3"}, {'c', "one"}, {'a', "4"}, {'s', ""}, {'a', "5"}, {'c', "two"}, {'c', "three"}, {'a', "6"}, {'s', ""}, {'c', ""}, {'a', "7"},
	}
	for n := 0; ; n++ {
		d := disk.New(3, 1000)
		j := opens(t, "new", d, 0, "")
		d.Arm(n)
		var k known
		for _, s := range steps {
			if s.do(j, &k) != api.OK {
				break
			}
		}
		for keep := range 45 {
			what := "power for " + strconv.Itoa(n) + ", " + strconv.Itoa(keep) + " kept"
			c := d.Copy()
			c.Restart(keep)
			lasts(t, what, c, k)
			for again := range 3 {
				c := d.Copy()
				c.Restart(keep)
				c.Arm(again)
				journal.Open(c)
				c.Restart(again)
				lasts(t, what+", and lost again", c, k)
			}
		}
		if !d.Dead() {
			return
		}
	}
}

// lasts asks for what may be there, opens it twice, and goes on with it.
func lasts(t *testing.T, what string, d *disk.Disk, k known) {
	t.Helper()
	j, c, e := reads(d)
	if e != api.OK || !k.may(c) {
		t.Fatalf("%s: Open = %q, %d; known is %q, %q", what, c, e, k.content, k.maybe)
	}
	d.Restart(0)
	j, again, e := reads(d)
	if e != api.OK || again.state != c.state || !slices.Equal(again.recs, c.recs) {
		t.Fatalf("%s: opened again: %q, %d; want %q", what, again, e, c)
	}
	if j.Append([]byte("more")) != api.OK || j.Sync() != api.OK {
		t.Fatalf("%s: it does not go on", what)
	}
	d.Restart(0)
	opens(t, what+", gone on", d, j.Seq(), c.state, append(c.recs, "more")...)
}

// TestLosesPowerAgainAndAgain draws calls, and how much power there is, and how much is kept: nothing that was synced is ever gone.
func TestLosesPowerAgainAndAgain(t *testing.T) {
	for seed := range int64(60) {
		r := rand.New(rand.NewSource(seed))
		d := disk.New(3, 100000)
		d.Arm(r.Intn(200)) // always armed: else no row of calls would end
		var k known
		for lost := range 60 {
			j, c, e := reads(d)
			if e == api.OK {
				if !k.may(c) {
					t.Fatalf("seed %d: behind %d losses: %q; known is %q, %q", seed, lost, c, k.content, k.maybe)
				}
				k = known{content: c}
			}
			for e == api.OK && !d.Dead() {
				e = drawnStep(r).do(j, &k)
			}
			d.Restart(r.Intn(60) - 5)
			d.Arm(r.Intn([]int{5, 200, 200, 200}[r.Intn(4)]))
		}
	}
}

// drawnStep answers a drawn one.
func drawnStep(r *rand.Rand) step {
	text := strconv.Itoa(r.Intn(1000000))[:1]
	switch r.Intn(5) {
	case 0:
		return step{'c', "state " + text}
	case 1, 2:
		return step{'s', ""}
	}
	return step{'a', "record " + text}
}
