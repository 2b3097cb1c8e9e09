package journal_test

import (
	"bytes"
	"math"
	"slices"
	"strings"
	"testing"

	"quilter/api"
	"quilter/disk"
	"quilter/journal"
)

// tells asks an answer for what it should be.
func tells(t *testing.T, what string, got api.Errno, want api.Errno) {
	t.Helper()
	if got != want {
		t.Errorf("%s = %d; want %d", what, got, want)
	}
}

// opens opens a journal that must open with this number, this state and these records.
func opens(t *testing.T, what string, d *disk.Disk, seq uint64, state string, recs ...string) *journal.Journal {
	t.Helper()
	j, s, l, e := journal.Open(d)
	if e != api.OK || j == nil {
		t.Fatalf("%s: Open = %d", what, e)
	}
	if j.Seq() != seq || string(s) != state || !same(l, recs) {
		t.Errorf("%s: Open = %d, %q, %q; want %d, %q, %q", what, j.Seq(), s, l, seq, state, recs)
	}
	return j
}

// refuses asks that Open tells an error, and nothing but that.
func refuses(t *testing.T, what string, d *disk.Disk, want api.Errno) {
	t.Helper()
	if j, s, l, e := journal.Open(d); j != nil || s != nil || l != nil || e != want {
		t.Errorf("%s: Open = %v, %q, %q, %d; want %d alone", what, j, s, l, e, want)
	}
}

// shows asks what is read of an area, and what lasts of it.
func shows(t *testing.T, what string, d *disk.Disk, a int, read []byte, lasting []byte) {
	t.Helper()
	if !bytes.Equal(d.Read(a), read) || !bytes.Equal(d.Lasting(a), lasting) {
		t.Errorf("%s: area %d: read %q, lasting %q; want %q, %q", what, a, d.Read(a), d.Lasting(a), read, lasting)
	}
}

// laidOut answers a disk whose areas have these bytes, and all of it lasts.
func laidOut(t *testing.T, l ...[]byte) *disk.Disk {
	t.Helper()
	d := disk.New(len(l), api.MaxDisk)
	for a, b := range l {
		tells(t, "laying out", d.Append(a, b), api.OK)
		tells(t, "laying out", d.Sync(a), api.OK)
	}
	return d
}

// row is frames of one number, one behind the other.
func row(n uint64, l ...string) []byte {
	var b []byte
	for _, s := range l {
		b = append(b, numbered(n, s)...)
	}
	return b
}

// TestExample is the chapter's.
func TestExample(t *testing.T) {
	d := disk.New(3, 1000)
	j := opens(t, "new", d, 0, "")
	tells(t, "Append", j.Append([]byte("ab")), api.OK)
	tells(t, "Sync", j.Sync(), api.OK)
	opens(t, "again", d, 0, "", "ab")
	d.Restart(0)
	opens(t, "behind Restart", d, 0, "", "ab")
}

func TestNewDisk(t *testing.T) {
	for areas := 3; areas <= api.MaxAreas; areas++ {
		d := disk.New(areas, 1000)
		j, s, l, e := journal.Open(d)
		if j == nil || s != nil || l != nil || e != api.OK || j.Seq() != 0 || j.Used() != 0 || d.Used() != 0 {
			t.Errorf("%d areas: Open = %v, %q, %q, %d", areas, j, s, l, e)
		}
	}
}

// TestAppend asks what each call makes of the log, byte by byte, and that nothing lasts of it without Sync.
func TestAppend(t *testing.T) {
	d := disk.New(4, 1000)
	j := opens(t, "new", d, 0, "")
	var want, last []byte
	for i, rec := range []string{"one", "", "\x00", "two", strings.Repeat("three", 20)} {
		tells(t, "Append", j.Append([]byte(rec)), api.OK)
		want = append(want, numbered(0, rec)...)
		shows(t, "behind Append", d, 2, want, last)
		if j.Used() != len(want) || j.Seq() != 0 {
			t.Errorf("used %d, seq %d; want %d, 0", j.Used(), j.Seq(), len(want))
		}
		if i%2 == 1 {
			tells(t, "Sync", j.Sync(), api.OK)
			last = bytes.Clone(want)
			shows(t, "behind Sync", d, 2, want, last)
		}
	}
	for _, a := range []int{0, 1, 3} {
		shows(t, "no log", d, a, nil, nil)
	}
	opens(t, "again", d, 0, "", "one", "", "\x00", "two", strings.Repeat("three", 20))
	d.Restart(0)
	opens(t, "behind Restart", d, 0, "", "one", "", "\x00", "two")
}

// TestSyncIsOfTheLog asks that what else is pending stays so.
func TestSyncIsOfTheLog(t *testing.T) {
	d := laidOut(t, numbered(2, "state"), nil, nil)
	j := opens(t, "laid out", d, 2, "state")
	d.Append(0, []byte("more"))
	d.Append(1, []byte("more"))
	tells(t, "Append", j.Append([]byte("rec")), api.OK)
	tells(t, "Sync", j.Sync(), api.OK)
	shows(t, "behind Sync", d, 0, append(numbered(2, "state"), "more"...), numbered(2, "state"))
	shows(t, "behind Sync", d, 1, []byte("more"), nil)
	shows(t, "behind Sync", d, 2, numbered(2, "rec"), numbered(2, "rec"))
}

// TestCheckpoint asks what states make of the slots, by turns, and that the log is of each new state alone.
func TestCheckpoint(t *testing.T) {
	d := disk.New(3, 1000)
	j := opens(t, "new", d, 0, "")
	tells(t, "Append", j.Append([]byte("ahead")), api.OK)
	var slots [2][]byte
	for i, state := range []string{"one", "", "a longer one", "\x00\x01", "five", "five", "seven"} {
		n := uint64(i + 1)
		tells(t, "Checkpoint", j.Checkpoint([]byte(state)), api.OK)
		slots[n%2] = numbered(n, state)
		for a := range 2 {
			shows(t, "behind Checkpoint", d, a, slots[a], slots[a])
		}
		shows(t, "behind Checkpoint", d, 2, nil, nil)
		if j.Seq() != n || j.Used() != 0 {
			t.Errorf("Seq %d, Used %d; want %d, 0", j.Seq(), j.Used(), n)
		}
		opens(t, "behind Checkpoint", d, n, state)
		tells(t, "Append", j.Append([]byte("rec")), api.OK)
		tells(t, "Append", j.Append([]byte(state)), api.OK)
		tells(t, "Sync", j.Sync(), api.OK)
		shows(t, "behind Append", d, 2, row(n, "rec", state), row(n, "rec", state))
		j = opens(t, "behind Append", d, n, state, "rec", state)
	}
	d.Restart(0)
	opens(t, "behind Restart", d, 7, "seven", "rec", "seven")
}

// TestCheckpointReplaces asks that nothing is left of what stood in the slot, and in the log, whatever it was.
func TestCheckpointReplaces(t *testing.T) {
	d := laidOut(t, []byte("junk that is longer than a state"), append(numbered(9, "state"), "junk"...), row(9, "a", "b"))
	j := opens(t, "laid out", d, 9, "state", "a", "b")
	tells(t, "Checkpoint", j.Checkpoint([]byte("s")), api.OK)
	shows(t, "behind Checkpoint", d, 0, numbered(10, "s"), numbered(10, "s"))
	shows(t, "behind Checkpoint", d, 1, append(numbered(9, "state"), "junk"...), append(numbered(9, "state"), "junk"...))
	shows(t, "behind Checkpoint", d, 2, nil, nil)
	opens(t, "again", d, 10, "s")
}

// TestWhichSlot asks for the greater number, whichever slot it is in, and for the first, where both have it.
func TestWhichSlot(t *testing.T) {
	nums := []uint64{0, 1, 2, 3, 255, 256, 1 << 32, 1<<63 - 1, 1 << 63, math.MaxUint64 - 1, math.MaxUint64}
	for _, n := range nums {
		opens(t, "the first alone", laidOut(t, numbered(n, "first"), nil, row(n, "x")), n, "first", "x")
		opens(t, "the second alone", laidOut(t, nil, numbered(n, "second"), row(n, "x")), n, "second", "x")
		for _, m := range nums {
			state := "first"
			if m > n {
				state = "second"
			}
			opens(t, "both", laidOut(t, numbered(n, "first"), numbered(m, "second"), row(max(n, m), "x", "y")), max(n, m), state, "x", "y")
		}
	}
}

// TestNumbersGoRound asks it behind the greatest number, and of slots that turns would not have put there.
func TestNumbersGoRound(t *testing.T) {
	for _, n := range []uint64{0, 1, 2, 254, 255, 1<<32 - 1, 1<<63 - 1, math.MaxUint64 - 1, math.MaxUint64} {
		for a := range 2 {
			l := [][]byte{nil, nil, row(n, "rec")}
			l[a] = numbered(n, "old")
			d := laidOut(t, l...)
			j := opens(t, "laid out", d, n, "old", "rec")
			tells(t, "Checkpoint", j.Checkpoint([]byte("new")), api.OK)
			l[(n+1)%2], l[2] = numbered(n+1, "new"), nil
			for i, b := range l {
				shows(t, "behind Checkpoint", d, i, b, b)
			}
			if j.Seq() != n+1 {
				t.Errorf("Seq = %d behind %d", j.Seq(), n)
			}
			tells(t, "Append", j.Append([]byte("x")), api.OK)
			shows(t, "behind Append", d, 2, numbered(n+1, "x"), nil)
		}
	}
}

// TestGoodSlots asks which bytes a slot may have.
func TestGoodSlots(t *testing.T) {
	good := numbered(5, "state")
	for _, b := range [][]byte{good, append(bytes.Clone(good), "junk"...), row(5, "state", "another one"), append(bytes.Clone(good), numbered(9, "behind")...)} {
		opens(t, "good", laidOut(t, b, nil, row(5, "x")), 5, "state", "x")
		opens(t, "good", laidOut(t, numbered(4, "older"), b, row(5, "x")), 5, "state", "x")
	}
	opens(t, "of no byte", laidOut(t, numbered(5, ""), numbered(4, "older"), nil), 5, "")
	long := strings.Repeat("s", 65528)
	opens(t, "of all bytes there may be", laidOut(t, numbered(5, long), numbered(4, "older"), nil), 5, long)
	for i := range 8 {
		short := framed([]byte("\xff\xff\xff\xff\xff\xff\xff\xff")[:i])
		opens(t, "too short for a number", laidOut(t, append(short, good...), numbered(4, "older"), row(4, "x")), 4, "older", "x")
		opens(t, "too short for a number, alone", laidOut(t, nil, append(short, good...), row(0, "x")), 0, "", "x")
	}
	for n := range good {
		opens(t, "cut short", laidOut(t, good[:n], numbered(4, "older"), row(4, "x")), 4, "older", "x")
		opens(t, "cut short, alone", laidOut(t, nil, good[:n], row(0, "x")), 0, "", "x")
		for bit := range 8 {
			bad := bytes.Clone(good)
			bad[n] ^= 1 << bit
			opens(t, "a bit changed", laidOut(t, numbered(4, "older"), bad, row(4, "x")), 4, "older", "x")
		}
	}
	opens(t, "good, but not at the beginning", laidOut(t, append([]byte("j"), good...), numbered(4, "older"), nil), 4, "older")
	opens(t, "in areas that are no slots", laidOut(t, nil, numbered(4, "state"), nil, numbered(9, "other"), numbered(9, "other")), 4, "state")
}

// TestLog asks which frames of the log are records, that the others are cut away, and that this lasts.
func TestLog(t *testing.T) {
	const seq = 300
	ours := row(seq, "a", "", "bc")
	short := framed([]byte("\x00\x00\x00\x00\x00\x00\x01"))
	spoilt := numbered(seq, "spoilt")
	spoilt[16] ^= 1
	for name, behind := range map[string][]byte{
		"a byte":                   {0},
		"no frame":                 []byte("junk that is no frame"),
		"no frame, and a record":   append([]byte("junk"), numbered(seq, "x")...),
		"a spoilt one":             append(spoilt, numbered(seq, "x")...),
		"one of the number below":  append(numbered(seq-1, "old"), numbered(seq, "x")...),
		"one of the number above":  append(numbered(seq+1, "new"), numbered(seq, "x")...),
		"one of 44, the last byte": numbered(44, "x"),
		"one of 0":                 numbered(0, "x"),
		"one of the greatest":      numbered(math.MaxUint64, "x"),
		"one of no byte":           append(framed(nil), numbered(seq, "x")...),
		"one of seven bytes":       append(short, numbered(seq, "x")...),
		"noughts":                  make([]byte, 100),
		"one too long":             append(framed(make([]byte, api.MaxFrame+1)), numbered(seq, "x")...),
	} {
		d := laidOut(t, numbered(seq, "state"), numbered(seq-1, "older"), append(bytes.Clone(ours), behind...))
		j := opens(t, name, d, seq, "state", "a", "", "bc")
		shows(t, name, d, 2, ours, ours)
		if j.Used() != len(ours) {
			t.Errorf("%s: used %d; want %d", name, j.Used(), len(ours))
		}
		d = laidOut(t, numbered(seq, "state"), nil, behind)
		j = opens(t, name+", alone", d, seq, "state")
		shows(t, name+", alone", d, 2, nil, nil)
		if j.Used() != 0 {
			t.Errorf("%s, alone: used %d", name, j.Used())
		}
		tells(t, "Append", j.Append([]byte("x")), api.OK)
		opens(t, name+", behind Append", d, seq, "state", "x")
	}
	long := strings.Repeat("r", 65528)
	opens(t, "of all bytes there may be", laidOut(t, nil, numbered(seq, ""), row(seq, long, "x", long)), seq, "", long, "x", long)
}

// TestLogCutShort cuts it at each byte: there are the records that are whole.
func TestLogCutShort(t *testing.T) {
	recs := []string{"one", "", "three", "four"}
	all := row(7, recs...)
	ends := []int{0, 19, 35, 56, 76}
	for n := range len(all) + 1 {
		whole := 0
		for whole < 4 && ends[whole+1] <= n {
			whole++
		}
		d := laidOut(t, nil, numbered(7, "s"), all[:n])
		opens(t, "cut short", d, 7, "s", recs[:whole]...)
		shows(t, "cut short", d, 2, all[:ends[whole]], all[:ends[whole]])
	}
}

// TestOpenDoesNotMore asks that a log of records alone is neither cut nor synced, and that slots are never.
func TestOpenDoesNotMore(t *testing.T) {
	d := laidOut(t, numbered(1, "older"), append(numbered(2, "state"), "junk"...), row(2, "a"))
	d.Append(0, []byte("pending"))
	d.Append(2, numbered(2, "b"))
	d.Arm(0)
	opens(t, "armed", d, 2, "state", "a", "b")
	if d.Dead() {
		t.Error("power was asked for")
	}
	shows(t, "the log", d, 2, row(2, "a", "b"), row(2, "a"))
	shows(t, "the first slot", d, 0, append(numbered(1, "older"), "pending"...), numbered(1, "older"))
	d = laidOut(t, append(numbered(1, "older"), "junk"...), []byte("junk"), append(row(1, "a"), "junk"...))
	d.Append(0, []byte("pending"))
	d.Arm(2)
	opens(t, "power for two units", d, 1, "older", "a")
	shows(t, "the log", d, 2, row(1, "a"), row(1, "a"))
	shows(t, "the first slot", d, 0, append(numbered(1, "older"), "junkpending"...), append(numbered(1, "older"), "junk"...))
	shows(t, "the second slot", d, 1, []byte("junk"), []byte("junk"))
}

// TestOpenErrors asks that there is nothing beside an error, and that as much was done as there was power for.
func TestOpenErrors(t *testing.T) {
	refuses(t, "no disk", nil, api.ErrNil)
	good, torn := row(2, "a"), append(row(2, "a"), "junk"...)
	for n := range 2 {
		d := laidOut(t, numbered(2, "state"), nil, torn)
		d.Arm(n)
		refuses(t, "too little power", d, api.ErrDead)
		shows(t, "too little power", d, 2, [][]byte{torn, good}[n], torn)
		refuses(t, "no power", d, api.ErrDead)
		shows(t, "no power", d, 2, [][]byte{torn, good}[n], torn)
		d.Restart(0)
		opens(t, "behind Restart", d, 2, "state", "a")
		shows(t, "behind Restart", d, 2, good, good)
	}
	d := disk.New(3, 100)
	d.Arm(0)
	d.Sync(0)
	refuses(t, "nothing there, and no power", d, api.ErrDead)
}

// TestLong asks at the edges of MaxFrame; what is too long does nothing, whatever else is wrong.
func TestLong(t *testing.T) {
	for _, n := range []int{65527, 65528, 65529, api.MaxFrame, api.MaxFrame + 1, 1 << 20} {
		d := disk.New(3, api.MaxDisk)
		j := opens(t, "new", d, 0, "")
		long := strings.Repeat("x", n)
		want, recs, state, seq := api.OK, []string{long}, long, uint64(1)
		if n > 65528 {
			want, recs, state, seq = api.ErrLong, nil, "", 0
		}
		d.Arm(n + 16)
		tells(t, "Append", j.Append([]byte(long)), want)
		opens(t, "behind Append", d, 0, "", recs...)
		d.Arm(n + 16 + 4)
		tells(t, "Checkpoint", j.Checkpoint([]byte(long)), want)
		if d.Dead() || j.Seq() != seq {
			t.Errorf("%d bytes: dead %t, seq %d", n, d.Dead(), j.Seq())
		}
		opens(t, "behind Checkpoint", d, seq, state)
	}
	long := make([]byte, 65529)
	for name, d := range map[string]*disk.Disk{"full": disk.New(3, 10), "no area": disk.New(0, 10), "no power": disk.New(3, 10)} {
		j := opens(t, name, d, 0, "")
		if name == "no power" {
			d.Arm(0)
			d.Sync(0)
		}
		tells(t, "Append, "+name, j.Append(long), api.ErrLong)
		tells(t, "Checkpoint, "+name, j.Checkpoint(long), api.ErrLong)
	}
	var none *journal.Journal
	tells(t, "Append to none", none.Append(long), api.ErrNil)
	tells(t, "Checkpoint of none", none.Checkpoint(long), api.ErrNil)
}

// TestFull asks what is left where the room is too little.
func TestFull(t *testing.T) {
	d := disk.New(3, 60)
	j := opens(t, "new", d, 0, "")
	tells(t, "Checkpoint", j.Checkpoint([]byte("one")), api.OK) // 19 bytes
	tells(t, "Append", j.Append([]byte("rec")), api.OK)         // 19 more
	tells(t, "Append of too much", j.Append([]byte("1234567")), api.ErrFull)
	shows(t, "behind Append of too much", d, 2, row(1, "rec"), nil)
	tells(t, "Sync", j.Sync(), api.OK)
	tells(t, "Checkpoint of too much", j.Checkpoint([]byte("1234567")), api.ErrFull)
	if j.Seq() != 1 || j.Used() != 19 {
		t.Errorf("seq %d, used %d", j.Seq(), j.Used())
	}
	opens(t, "behind Checkpoint of too much", d, 1, "one", "rec")
	tells(t, "Checkpoint of just enough", j.Checkpoint([]byte("123456")), api.OK)
	tells(t, "Append", j.Append(nil), api.OK)
	if j.Seq() != 2 || j.Used() != 16 {
		t.Errorf("seq %d, used %d", j.Seq(), j.Used())
	}
	tells(t, "Checkpoint of too much", j.Checkpoint([]byte("1234567")), api.ErrFull)
	shows(t, "behind Checkpoint of too much", d, 1, nil, numbered(1, "one"))
	opens(t, "behind Checkpoint of too much", d, 2, "123456", "")
	tells(t, "Checkpoint of what the older state leaves", j.Checkpoint([]byte("other")), api.OK)
	opens(t, "behind all", d, 3, "other")
}

// TestFewAreas asks it of disks that have no log, or not all slots.
func TestFewAreas(t *testing.T) {
	for areas := range 3 {
		d := disk.New(areas, 1000)
		j := opens(t, "few areas", d, 0, "")
		tells(t, "Append", j.Append([]byte("a")), api.ErrArg)
		tells(t, "Sync", j.Sync(), api.ErrArg)
		tells(t, "Checkpoint", j.Checkpoint([]byte("s")), api.ErrArg)
		seq := uint64(areas / 2) // with two slots the state is there, and the log alone is not
		if j.Seq() != seq || j.Used() != 0 {
			t.Errorf("%d areas: seq %d, used %d", areas, j.Seq(), j.Used())
		}
		opens(t, "few areas, again", d, seq, "s"[:seq])
	}
	j := opens(t, "a disk that New did not make", &disk.Disk{}, 0, "")
	tells(t, "Append", j.Append(nil), api.ErrArg)
}

// TestNil asks all calls of a journal that is not there, and of one that Open did not make.
func TestNil(t *testing.T) {
	for _, j := range []*journal.Journal{nil, {}} {
		for _, b := range [][]byte{nil, {}, []byte("a"), make([]byte, 65528)} {
			tells(t, "Append", j.Append(b), api.ErrNil)
			tells(t, "Checkpoint", j.Checkpoint(b), api.ErrNil)
		}
		tells(t, "Sync", j.Sync(), api.ErrNil)
		if j.Seq() != 0 || j.Used() != 0 {
			t.Errorf("seq %d, used %d", j.Seq(), j.Used())
		}
	}
}

// TestNoPower asks all calls of a journal whose disk has none.
func TestNoPower(t *testing.T) {
	d := laidOut(t, numbered(2, "state"), nil, row(2, "a"))
	j := opens(t, "laid out", d, 2, "state", "a")
	d.Arm(0)
	tells(t, "Sync", j.Sync(), api.ErrDead)
	tells(t, "Append", j.Append([]byte("b")), api.ErrDead)
	tells(t, "Append of nothing", j.Append(nil), api.ErrDead)
	tells(t, "Checkpoint", j.Checkpoint([]byte("c")), api.ErrDead)
	if j.Seq() != 2 || j.Used() != 17 {
		t.Errorf("seq %d, used %d", j.Seq(), j.Used())
	}
	shows(t, "no power", d, 0, numbered(2, "state"), numbered(2, "state"))
	shows(t, "no power", d, 1, nil, nil)
	shows(t, "no power", d, 2, row(2, "a"), row(2, "a"))
}

// TestKeepsItsDisk asks that a journal sees what is done to its disk, and that its disk's own calls are called through it.
func TestKeepsItsDisk(t *testing.T) {
	d := disk.New(3, 1000)
	j := opens(t, "new", d, 0, "")
	d.Append(2, []byte("junk"))
	if j.Used() != 4 || string(j.Read(2)) != "junk" || len(j.Lasting(2)) != 0 {
		t.Errorf("used %d, read %q, lasting %q", j.Used(), j.Read(2), j.Lasting(2))
	}
	j.Arm(0)
	tells(t, "Cut", j.Cut(2, 0), api.ErrDead)
	if !j.Dead() || !d.Dead() {
		t.Errorf("dead %t, the disk %t", j.Dead(), d.Dead())
	}
	j.Restart(1)
	if j.Dead() || d.Dead() || j.Used() != 1 || string(j.Copy().Read(2)) != "j" {
		t.Errorf("dead %t, the disk %t, used %d", j.Dead(), d.Dead(), j.Used())
	}
	tells(t, "Checkpoint", j.Checkpoint([]byte("s")), api.OK)
	opens(t, "the disk", d, 1, "s")
}

// TestTwoJournals asks that those of two disks know nothing of one another, and that each of one disk has a number of its own.
func TestTwoJournals(t *testing.T) {
	d, e := disk.New(3, 1000), disk.New(3, 1000)
	j, k := opens(t, "one", d, 0, ""), opens(t, "two", e, 0, "")
	tells(t, "Checkpoint", j.Checkpoint([]byte("s")), api.OK)
	tells(t, "Append", k.Append([]byte("a")), api.OK)
	if j.Seq() != 1 || k.Seq() != 0 || j.Used() != 0 || k.Used() != 17 {
		t.Errorf("seq %d, %d, used %d, %d", j.Seq(), k.Seq(), j.Used(), k.Used())
	}
	opens(t, "one", d, 1, "s")
	opens(t, "two", e, 0, "", "a")
	m := opens(t, "one, again", d, 1, "s")
	tells(t, "Checkpoint", m.Checkpoint([]byte("t")), api.OK)
	tells(t, "Append", j.Append([]byte("late")), api.OK)
	if j.Seq() != 1 || m.Seq() != 2 || j.Used() != m.Used() {
		t.Errorf("seq %d, %d, used %d, %d", j.Seq(), m.Seq(), j.Used(), m.Used())
	}
	shows(t, "the log", d, 2, row(1, "late"), nil)
	opens(t, "one, once more", d, 2, "t")
}

// TestManyRecords fills the log of the greatest disk with the shortest records.
func TestManyRecords(t *testing.T) {
	b := bytes.Repeat(numbered(1, ""), api.MaxDisk/16-2)
	d := laidOut(t, nil, numbered(1, ""), slices.Concat(b, []byte("junk")))
	j, s, l, e := journal.Open(d)
	if e != api.OK || len(s) != 0 || len(l) != api.MaxDisk/16-2 || j.Used() != len(b) || len(d.Lasting(2)) != len(b) {
		t.Errorf("Open = %q, %d records, %d; used %d", s, len(l), e, j.Used())
	}
	for _, rec := range l {
		if len(rec) != 0 {
			t.Fatalf("a record of %q", rec)
		}
	}
	tells(t, "Append", j.Append(nil), api.OK)
	tells(t, "Append of one more", j.Append([]byte("a")), api.ErrFull)
}
