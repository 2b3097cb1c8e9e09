package disk_test

import (
	"math"
	"testing"

	"quilter/api"
	"quilter/disk"
)

// TestArm asks how far calls come with so much power: each byte, each cut and each sync takes a unit, and nothing else does.
func TestArm(t *testing.T) {
	for n := -2; n < 12; n++ {
		d := synced(t, 100, "old", "x")
		d.Arm(n)
		left := max(n, 0)
		if d.Dead() {
			t.Errorf("Arm(%d): dead at once", n)
		}
		want := func(takes int) api.Errno {
			if left < takes || d.Dead() {
				return api.ErrDead
			}
			left -= takes
			return api.OK
		}
		for _, x := range []struct {
			what  string
			takes int
			call  func() api.Errno
		}{
			{"Append of ab", 2, func() api.Errno { return d.Append(0, []byte("ab")) }},
			{"Append of nothing", 0, func() api.Errno { return d.Append(0, []byte{}) }},
			{"Cut", 1, func() api.Errno { return d.Cut(0, 4) }},
			{"Cut of all there is", 1, func() api.Errno { return d.Cut(0, 4) }},
			{"Sync", 1, func() api.Errno { return d.Sync(0) }},
			{"Sync of what lasts", 1, func() api.Errno { return d.Sync(0) }},
			{"Sync of the other one", 1, func() api.Errno { return d.Sync(1) }},
			{"Append to the other one", 1, func() api.Errno { return d.Append(1, []byte("y")) }},
		} {
			e := want(x.takes)
			tells(t, x.what, x.call(), e)
			if d.Dead() != (e != api.OK) {
				t.Errorf("Arm(%d): behind %s: dead %t", n, x.what, d.Dead())
			}
		}
		read := []string{"old", "olda", "oldab", "olda", "olda"}[min(max(n, 0), 4)]
		shows(t, "behind all", d, 0, read, map[bool]string{true: "olda", false: "old"}[n >= 5])
	}
}

// TestRefusedTakesNothing asks that a call which tells another error took no unit.
func TestRefusedTakesNothing(t *testing.T) {
	d := synced(t, 10, "abc")
	d.Arm(1)
	tells(t, "Append of too much", d.Append(0, make([]byte, 8)), api.ErrFull)
	tells(t, "Append to no area", d.Append(1, []byte("a")), api.ErrArg)
	tells(t, "Cut of no area", d.Cut(1, 0), api.ErrArg)
	tells(t, "Cut of too much", d.Cut(0, 4), api.ErrArg)
	tells(t, "Cut below 0", d.Cut(0, -1), api.ErrArg)
	tells(t, "Sync of no area", d.Sync(1), api.ErrArg)
	tells(t, "Append of nothing", d.Append(0, nil), api.OK)
	d.Read(0)
	d.Lasting(0)
	d.Used()
	d.Copy().Cut(0, 0)
	if d.Dead() {
		t.Error("dead")
	}
	tells(t, "Append", d.Append(0, []byte("d")), api.OK)
	tells(t, "Append of too much, and no power", d.Append(0, make([]byte, 8)), api.ErrFull)
	tells(t, "Cut of too much, and no power", d.Cut(0, 5), api.ErrArg)
	tells(t, "Append of nothing, and no power", d.Append(0, nil), api.OK)
	if d.Dead() {
		t.Error("dead")
	}
	tells(t, "Append, and no power", d.Append(0, []byte("e")), api.ErrDead)
	tells(t, "Append of nothing, and power is lost", d.Append(0, nil), api.ErrDead)
	shows(t, "behind all", d, 0, "abcd", "abc")
}

// TestPartOfAppend asks that as many bytes are behind as there was power for, and that these are pending.
func TestPartOfAppend(t *testing.T) {
	for n := range 5 {
		for keep := range 6 {
			d := synced(t, 100, "old")
			d.Arm(n)
			tells(t, "Append", d.Append(0, []byte("abcde")), api.ErrDead)
			if !d.Dead() || d.Used() != 3+n {
				t.Errorf("Arm(%d): dead %t, used %d", n, d.Dead(), d.Used())
			}
			shows(t, "behind Append", d, 0, "old"+"abcde"[:n], "old")
			d.Restart(keep)
			kept := "old" + "abcde"[:min(n, keep)]
			shows(t, "behind Restart", d, 0, kept, kept)
		}
	}
}

// TestArmedAgain asks that the last Arm holds.
func TestArmedAgain(t *testing.T) {
	d := synced(t, 100, "")
	d.Arm(0)
	d.Arm(3)
	tells(t, "Append", d.Append(0, []byte("abc")), api.OK)
	d.Arm(1)
	tells(t, "Sync", d.Sync(0), api.OK)
	d.Arm(5)
	d.Arm(-7)
	tells(t, "Sync", d.Sync(0), api.ErrDead)
	for _, n := range numbers {
		d.Arm(n)
		tells(t, "Sync, armed while power is lost", d.Sync(0), api.ErrDead)
		if !d.Dead() {
			t.Errorf("Arm(%d) brings power back", n)
		}
	}
}

// TestRestartDisarms asks that there is power without an end, whatever was armed: while there was power, and while there was none.
func TestRestartDisarms(t *testing.T) {
	for n := range 3 {
		d := synced(t, 100, "old")
		d.Arm(n)
		d.Append(0, []byte("ab"))
		d.Arm(1)
		d.Restart(0)
		if d.Dead() {
			t.Errorf("Arm(%d): dead", n)
		}
		tells(t, "Append", d.Append(0, []byte("cdefgh")), api.OK)
		tells(t, "Cut", d.Cut(0, 8), api.OK)
		tells(t, "Sync", d.Sync(0), api.OK)
		shows(t, "behind all", d, 0, "oldcdefg", "oldcdefg")
	}
}

// TestArmIsClipped takes all the units that there may be.
func TestArmIsClipped(t *testing.T) {
	const most = 1000000000
	round := make([]byte, api.MaxDisk)
	for _, n := range []int{most - 1, most, most + 1, math.MaxInt} {
		d := disk.New(1, api.MaxDisk)
		d.Arm(n)
		left := min(n, most)
		for left >= api.MaxDisk+2 {
			if d.Append(0, round) != api.OK || d.Cut(0, 0) != api.OK || d.Sync(0) != api.OK {
				t.Fatalf("Arm(%d): no power, and %d left", n, left)
			}
			left -= api.MaxDisk + 2
		}
		tells(t, "Append of all that is left", d.Append(0, round[:left]), api.OK)
		if d.Dead() || d.Used() != left {
			t.Errorf("Arm(%d): dead %t, used %d", n, d.Dead(), d.Used())
		}
		tells(t, "one more", d.Cut(0, 0), api.ErrDead)
		if !d.Dead() {
			t.Errorf("Arm(%d): power is there still", n)
		}
	}
}

// TestWhatLasts loses power everywhere in a row of calls, and keeps each part of what was pending: there is what was, or a thing more of what was about to be.
func TestWhatLasts(t *testing.T) {
	row := []func(*disk.Disk){
		func(d *disk.Disk) { d.Append(0, []byte("abc")) },
		func(d *disk.Disk) { d.Append(0, []byte("de")) },
		func(d *disk.Disk) { d.Sync(0) },
		func(d *disk.Disk) { d.Cut(0, 1) },
		func(d *disk.Disk) { d.Append(0, []byte("fg")) },
		func(d *disk.Disk) { d.Sync(0) },
		func(d *disk.Disk) { d.Append(0, []byte("h")) },
		func(d *disk.Disk) { d.Cut(0, 0) },
		func(d *disk.Disk) { d.Append(0, []byte("i")) },
	}
	// What is read behind each unit, and how many units back it was synced.
	read := []string{"", "a", "ab", "abc", "abcd", "abcde", "abcde", "a", "af", "afg", "afg", "afgh", "", "i", "i"}
	back := []int{0, 1, 2, 3, 4, 5, 0, 1, 2, 3, 0, 1, 2, 3, 3}
	for n := range read {
		for keep := -1; keep < 8; keep++ {
			d := disk.New(1, 100)
			d.Arm(n)
			for _, call := range row {
				call(d)
			}
			was := n - back[n]
			if n == len(read)-1 {
				was = n - 1 - back[n] // there was one unit more than was asked for
			}
			shows(t, "without power", d, 0, read[n], read[was])
			d.Restart(keep)
			want := read[was+min(max(keep, 0), back[n])]
			shows(t, "behind Restart", d, 0, want, want)
		}
	}
}
