package disk_test

import (
	"bytes"
	"math"
	"strings"
	"testing"

	"quilter/api"
	"quilter/disk"
)

// numbers are edges of what an int may be, and of what the chapter clips.
var numbers = []int{math.MinInt, math.MinInt32, -1000, -9, -1, 0, 1, 7, 8, 9, 1000, api.MaxDisk - 1, api.MaxDisk, api.MaxDisk + 1, 999999999, 1000000000, 1000000001, math.MaxInt32, math.MaxInt - 1, math.MaxInt}

// tells asks an answer for what it should be.
func tells(t *testing.T, what string, got api.Errno, want api.Errno) {
	t.Helper()
	if got != want {
		t.Errorf("%s = %d; want %d", what, got, want)
	}
}

// shows asks what is read of an area, and what lasts of it.
func shows(t *testing.T, what string, d *disk.Disk, a int, read string, lasting string) {
	t.Helper()
	if string(d.Read(a)) != read || string(d.Lasting(a)) != lasting {
		t.Errorf("%s: area %d: read %q, lasting %q; want %q, %q", what, a, d.Read(a), d.Lasting(a), read, lasting)
	}
}

// synced answers a disk whose areas have these bytes, and all of it lasts.
func synced(t *testing.T, room int, l ...string) *disk.Disk {
	t.Helper()
	d := disk.New(len(l), room)
	for a, s := range l {
		tells(t, "Append "+s, d.Append(a, []byte(s)), api.OK)
		tells(t, "Sync", d.Sync(a), api.OK)
	}
	return d
}

// TestExamples are the chapter's, and the document's third one.
func TestExamples(t *testing.T) {
	d := synced(t, 100, "ab")
	tells(t, "Append", d.Append(0, []byte("cd")), api.OK)
	shows(t, "behind Append", d, 0, "abcd", "ab")
	d.Restart(1)
	shows(t, "behind Restart", d, 0, "abc", "abc")
}

func TestNewHasNothing(t *testing.T) {
	d := disk.New(3, 100)
	for a := -1; a <= 3; a++ {
		shows(t, "a new one", d, a, "", "")
	}
	if d.Used() != 0 || d.Dead() {
		t.Errorf("used %d, dead %t", d.Used(), d.Dead())
	}
}

// TestNewClipsAreas asks how many areas there are.
func TestNewClipsAreas(t *testing.T) {
	for _, n := range append(numbers, 2, 3, 4, 5, 6) {
		d := disk.New(n, 100)
		want := min(max(n, 0), 8)
		for _, a := range append(numbers, 2, 3, 4, 5, 6) {
			e := api.ErrArg
			if a >= 0 && a < want {
				e = api.OK
			}
			tells(t, "Append", d.Append(a, nil), e)
			tells(t, "Cut", d.Cut(a, 0), e)
			tells(t, "Sync", d.Sync(a), e)
		}
	}
}

// TestNewClipsRoom asks how much room there is.
func TestNewClipsRoom(t *testing.T) {
	all := make([]byte, api.MaxDisk+1)
	for _, n := range numbers {
		d := disk.New(2, n)
		want := min(max(n, 0), 1<<22)
		tells(t, "Append of one too many", d.Append(0, all[:want+1]), api.ErrFull)
		tells(t, "Append of all", d.Append(0, all[:want]), api.OK)
		tells(t, "Append of one more", d.Append(1, all[:1]), api.ErrFull)
		tells(t, "Append of nothing", d.Append(1, nil), api.OK)
		if d.Used() != want || len(d.Read(0)) != want {
			t.Errorf("New(2, %d): used %d, read %d; want %d", n, d.Used(), len(d.Read(0)), want)
		}
	}
}

// TestRoomIsOfAll fills areas in turns, cuts them, and fills them again; what lasts counts for nothing.
func TestRoomIsOfAll(t *testing.T) {
	d := synced(t, 10, "abcd", "xyz")
	tells(t, "Append of one too many", d.Append(0, []byte("1234")), api.ErrFull)
	tells(t, "Append of one too many", d.Append(1, []byte("1234")), api.ErrFull)
	shows(t, "full", d, 0, "abcd", "abcd")
	shows(t, "full", d, 1, "xyz", "xyz")
	tells(t, "Append", d.Append(1, []byte("123")), api.OK)
	tells(t, "Append of one more", d.Append(0, []byte("e")), api.ErrFull)
	tells(t, "Cut", d.Cut(0, 0), api.OK)
	tells(t, "Append of one too many", d.Append(0, []byte("12345")), api.ErrFull)
	tells(t, "Append", d.Append(0, []byte("1234")), api.OK)
	if d.Used() != 10 {
		t.Errorf("used %d", d.Used())
	}
	d.Restart(1)
	shows(t, "behind Restart", d, 0, "", "")
	shows(t, "behind Restart", d, 1, "xyz1", "xyz1")
	if d.Used() != 4 {
		t.Errorf("behind Restart: used %d", d.Used())
	}
}

func TestAppendAllBytes(t *testing.T) {
	var all []byte
	for c := range 256 {
		all = append(all, byte(c))
	}
	d := disk.New(1, 1000)
	for range 3 {
		tells(t, "Append", d.Append(0, all), api.OK)
	}
	if !bytes.Equal(d.Read(0), bytes.Repeat(all, 3)) || len(d.Lasting(0)) != 0 || d.Used() != 768 {
		t.Errorf("read %d, lasting %d, used %d", len(d.Read(0)), len(d.Lasting(0)), d.Used())
	}
	d.Restart(300)
	if want := append(bytes.Clone(all), all[:44]...); !bytes.Equal(d.Read(0), want) || !bytes.Equal(d.Lasting(0), want) {
		t.Errorf("behind Restart: read %d, lasting %d", len(d.Read(0)), len(d.Lasting(0)))
	}
}

func TestCut(t *testing.T) {
	for n, want := range []string{"", "a", "ab", "abc"} {
		d := synced(t, 10, "abc", "xyz")
		tells(t, "Cut", d.Cut(0, n), api.OK)
		shows(t, "behind Cut", d, 0, want, "abc")
		shows(t, "behind Cut", d, 1, "xyz", "xyz")
		tells(t, "Append", d.Append(0, []byte("d")), api.OK)
		shows(t, "behind Append", d, 0, want+"d", "abc")
		tells(t, "Sync", d.Sync(0), api.OK)
		shows(t, "behind Sync", d, 0, want+"d", want+"d")
	}
}

// TestCutOfOthers asks for as many bytes as are not read.
func TestCutOfOthers(t *testing.T) {
	d := synced(t, 10, "abc")
	tells(t, "Cut", d.Cut(0, 1), api.OK)
	for _, n := range append(numbers, 2, 3, 4) {
		if n == 0 || n == 1 {
			continue
		}
		tells(t, "Cut", d.Cut(0, n), api.ErrArg)
		shows(t, "behind Cut", d, 0, "a", "abc")
	}
	tells(t, "Cut of all", d.Cut(0, 1), api.OK)
}

// TestCutThings asks that a cut is one thing, also one that leaves all there is.
func TestCutThings(t *testing.T) {
	for keep, want := range []string{"abc", "abc", "abcd", "ab", "abe", "abe", "abef", "abef"} {
		d := synced(t, 10, "abc")
		tells(t, "Cut", d.Cut(0, 3), api.OK)
		tells(t, "Append", d.Append(0, []byte("d")), api.OK)
		tells(t, "Cut", d.Cut(0, 2), api.OK)
		tells(t, "Append", d.Append(0, []byte("e")), api.OK)
		tells(t, "Append of nothing", d.Append(0, nil), api.OK)
		tells(t, "Cut", d.Cut(0, 3), api.OK)
		tells(t, "Append", d.Append(0, []byte("f")), api.OK)
		d.Restart(keep)
		shows(t, "behind Restart", d, 0, want, want)
	}
}

// TestSyncIsOfOne asks that each area is synced by itself.
func TestSyncIsOfOne(t *testing.T) {
	d := disk.New(2, 10)
	tells(t, "Append", d.Append(0, []byte("abc")), api.OK)
	tells(t, "Append", d.Append(1, []byte("xyz")), api.OK)
	tells(t, "Sync", d.Sync(1), api.OK)
	shows(t, "behind Sync", d, 0, "abc", "")
	shows(t, "behind Sync", d, 1, "xyz", "xyz")
	d.Restart(2)
	shows(t, "behind Restart", d, 0, "ab", "ab")
	shows(t, "behind Restart", d, 1, "xyz", "xyz")
}

// TestRestartKeeps asks that each area keeps as much, and that nothing is pending any more.
func TestRestartKeeps(t *testing.T) {
	for _, keep := range append(numbers, 2, 3, 4, 5) {
		n := min(max(keep, 0), 4)
		d := synced(t, 100, "old", "", "new")
		tells(t, "Append", d.Append(0, []byte("ab")), api.OK)
		tells(t, "Append", d.Append(0, []byte("cd")), api.OK)
		tells(t, "Append", d.Append(1, []byte("wxyz")), api.OK)
		d.Restart(keep)
		for range 2 {
			shows(t, "behind Restart", d, 0, "old"+"abcd"[:n], "old"+"abcd"[:n])
			shows(t, "behind Restart", d, 1, "wxyz"[:n], "wxyz"[:n])
			shows(t, "behind Restart", d, 2, "new", "new")
			if d.Used() != 6+2*n || d.Dead() {
				t.Errorf("Restart(%d): used %d, dead %t", keep, d.Used(), d.Dead())
			}
			d.Restart(99)
		}
	}
}

// TestErrorsInOrder asks calls with several things wrong for the first of these.
func TestErrorsInOrder(t *testing.T) {
	dead := synced(t, 10, "abc", "xyz")
	dead.Arm(0)
	tells(t, "Sync without power", dead.Sync(0), api.ErrDead)
	for _, a := range []int{math.MinInt, -1, 2, 3, 8, math.MaxInt} {
		tells(t, "Append to no area, of too much, without power", dead.Append(a, make([]byte, 11)), api.ErrArg)
		tells(t, "Cut of no area, without power", dead.Cut(a, 0), api.ErrArg)
		tells(t, "Sync of no area, without power", dead.Sync(a), api.ErrArg)
	}
	tells(t, "Append of too much, without power", dead.Append(0, make([]byte, 11)), api.ErrDead)
	tells(t, "Append of nothing, without power", dead.Append(0, nil), api.ErrDead)
	tells(t, "Cut below 0, without power", dead.Cut(0, -1), api.ErrDead)
	tells(t, "Cut of too much, without power", dead.Cut(0, 4), api.ErrDead)
	tells(t, "Cut, without power", dead.Cut(0, 1), api.ErrDead)
	tells(t, "Sync, without power", dead.Sync(0), api.ErrDead)
	shows(t, "without power", dead, 0, "abc", "abc")
	shows(t, "without power", dead, 1, "xyz", "xyz")
	full := disk.New(1, 10)
	tells(t, "Append to no area, of too much", full.Append(1, make([]byte, 11)), api.ErrArg)
	tells(t, "Append of too much", full.Append(0, make([]byte, 11)), api.ErrFull)
}

// TestNil asks all calls of a disk that is not there.
func TestNil(t *testing.T) {
	var d *disk.Disk
	for _, n := range numbers {
		d.Arm(n)
		d.Restart(n)
		tells(t, "Append", d.Append(n, []byte("a")), api.ErrNil)
		tells(t, "Append", d.Append(n, nil), api.ErrNil)
		tells(t, "Cut", d.Cut(n, n), api.ErrNil)
		tells(t, "Sync", d.Sync(n), api.ErrNil)
		shows(t, "nil", d, n, "", "")
	}
	if d.Used() != 0 || d.Dead() || d.Copy() != nil {
		t.Errorf("used %d, dead %t, copy %v", d.Used(), d.Dead(), d.Copy())
	}
}

// TestNotMade asks them of one that New did not make: it is as one without an area.
func TestNotMade(t *testing.T) {
	var d disk.Disk
	for _, n := range numbers {
		d.Arm(n)
		tells(t, "Append", d.Append(n, []byte("a")), api.ErrArg)
		tells(t, "Cut", d.Cut(n, n), api.ErrArg)
		tells(t, "Sync", d.Sync(n), api.ErrArg)
		shows(t, "not made", &d, n, "", "")
		d.Restart(n)
	}
	if d.Used() != 0 || d.Dead() || d.Copy().Used() != 0 {
		t.Errorf("used %d, dead %t", d.Used(), d.Dead())
	}
}

// TestAllArguments asks each call with each edge: none may panic, and none may do what it tells that it did not.
func TestAllArguments(t *testing.T) {
	for _, n := range numbers {
		for _, k := range numbers {
			d := synced(t, 100, "abc", "xyz")
			d.Arm(k)
			if e := d.Cut(n, k); e != api.OK {
				shows(t, "a cut that is refused", d, 0, "abc", "abc")
				shows(t, "a cut that is refused", d, 1, "xyz", "xyz")
			}
			d.Append(n, []byte("def"))
			d.Sync(n)
			d.Read(n)
			d.Lasting(n)
			d.Restart(k)
			if d.Dead() || d.Used() > 12 {
				t.Errorf("%d, %d: used %d, dead %t", n, k, d.Used(), d.Dead())
			}
		}
	}
}

// TestFullDisk asks the greatest disk of the most areas, and that what was cut leaves its room.
func TestFullDisk(t *testing.T) {
	d := disk.New(api.MaxAreas, api.MaxDisk)
	part := []byte(strings.Repeat("quilter.", api.MaxDisk/api.MaxAreas/8))
	for range 3 {
		for a := range api.MaxAreas {
			tells(t, "Append", d.Append(a, part), api.OK)
			tells(t, "Sync", d.Sync(a), api.OK)
		}
		tells(t, "Append of one more", d.Append(7, part[:1]), api.ErrFull)
		for a := range api.MaxAreas {
			if !bytes.Equal(d.Lasting(a), part) || d.Cut(a, 0) != api.OK || d.Used() != (7-a)*len(part) {
				t.Errorf("area %d: lasting %d, used %d", a, len(d.Lasting(a)), d.Used())
			}
		}
	}
	d.Restart(0)
	if d.Used() != api.MaxDisk {
		t.Errorf("used %d", d.Used())
	}
}

// TestManyCuts asks that what is read and cut again and again without a sync is all kept.
func TestManyCuts(t *testing.T) {
	d := synced(t, 4, "o")
	for range 20000 {
		tells(t, "Append", d.Append(0, []byte("abc")), api.OK)
		tells(t, "Cut", d.Cut(0, 1), api.OK)
	}
	for k, want := range []string{"o", "oa", "oab", "oabc"} {
		c := d.Copy()
		c.Restart(4*19999 + k)
		shows(t, "behind Restart", c, 0, want, want)
	}
}
