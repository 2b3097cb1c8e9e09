package disk_test

import (
	"bytes"
	"testing"

	"quilter/api"
	"quilter/disk"
)

// spoil writes over all that b has, and over the room behind it.
func spoil(b []byte) {
	for i := range b[:cap(b)] {
		b[:cap(b)][i] = '!'
	}
}

// TestKeepsNothing hands in a piece of an array, which is written over later: it stays as it is, and is not seen any more.
func TestKeepsNothing(t *testing.T) {
	d := disk.New(2, 100)
	all := []byte("ahead, abc, behind")
	was := bytes.Clone(all)
	for a := range 2 {
		tells(t, "Append", d.Append(a, all[7:10]), api.OK)
		tells(t, "Append", d.Append(a, all[7:10]), api.OK)
	}
	tells(t, "Sync", d.Sync(0), api.OK)
	tells(t, "Cut", d.Cut(0, 3), api.OK)
	c := d.Copy()
	c.Restart(5)
	if !bytes.Equal(all, was) {
		t.Errorf("what was handed in is %q", all)
	}
	spoil(all)
	shows(t, "handed in", d, 0, "abc", "abcabc")
	shows(t, "handed in", d, 1, "abcabc", "")
	shows(t, "handed in, in the copy", c, 1, "abcab", "abcab")
	d.Restart(5)
	shows(t, "handed in, behind Restart", d, 0, "abc", "abc")
	shows(t, "handed in, behind Restart", d, 1, "abcab", "abcab")
}

// TestPartKeepsNothing asks it of an Append that power was lost in.
func TestPartKeepsNothing(t *testing.T) {
	d := disk.New(1, 100)
	all := []byte("abc")
	d.Arm(2)
	tells(t, "Append", d.Append(0, all), api.ErrDead)
	spoil(all)
	shows(t, "handed in", d, 0, "ab", "")
	d.Restart(2)
	shows(t, "handed in, behind Restart", d, 0, "ab", "ab")
}

// TestSharesNothing writes over what comes out, and over the room behind it, at each stage of an area's bytes.
func TestSharesNothing(t *testing.T) {
	d := disk.New(1, 100)
	asks := func(what string, read string, lasting string) {
		t.Helper()
		one, two := d.Read(0), d.Lasting(0)
		three, four := d.Read(0), d.Lasting(0)
		spoil(one)
		spoil(two)
		if string(three) != read || string(four) != lasting {
			t.Errorf("%s: two answers share: %q, %q; want %q, %q", what, three, four, read, lasting)
		}
		_ = append(three, "more bytes than there is room for"...)
		_ = append(four, '!')
		shows(t, what, d, 0, read, lasting)
	}
	asks("new", "", "")
	d.Append(0, []byte("abc"))
	asks("behind Append", "abc", "")
	d.Sync(0)
	asks("behind Sync", "abc", "abc")
	d.Cut(0, 1)
	asks("behind Cut", "a", "abc")
	d.Append(0, []byte("de"))
	asks("behind Append", "ade", "abc")
	d.Restart(2)
	asks("behind Restart", "ad", "ad")
	d.Append(0, []byte("f"))
	asks("behind Append", "adf", "ad")
	d = d.Copy()
	asks("the copy", "adf", "ad")
	d.Restart(9)
	asks("the copy, behind Restart", "adf", "adf")
}

// TestReadAndLastingPart asks that what lasts stays while what is read goes on from the same bytes.
func TestReadAndLastingPart(t *testing.T) {
	for _, back := range []func(*disk.Disk){func(d *disk.Disk) { d.Sync(0) }, func(d *disk.Disk) { d.Restart(99) }} {
		d := disk.New(1, 100)
		d.Append(0, []byte("abcdef"))
		back(d)
		d.Cut(0, 2)
		d.Append(0, []byte("XYZ"))
		shows(t, "both", d, 0, "abXYZ", "abcdef")
		c := d.Copy()
		c.Restart(0)
		shows(t, "the copy, behind Restart", c, 0, "abcdef", "abcdef")
		c.Append(0, []byte("g"))
		d.Append(0, []byte("h"))
		shows(t, "the copy", c, 0, "abcdefg", "abcdef")
		shows(t, "the one that was copied", d, 0, "abXYZh", "abcdef")
		d.Restart(3)
		shows(t, "the one that was copied, behind Restart", d, 0, "abXY", "abXY")
	}
}

// TestCopyIsTheSame asks it of power, of what is armed, of what is pending, and of the room.
func TestCopyIsTheSame(t *testing.T) {
	d := synced(t, 10, "abc", "")
	d.Append(1, []byte("xy"))
	d.Arm(4)
	c := d.Copy()
	tells(t, "Append of too much to the copy", c.Append(0, make([]byte, 6)), api.ErrFull)
	tells(t, "Append to the copy", c.Append(0, []byte("defgh")), api.ErrDead)
	shows(t, "the copy", c, 0, "abcdefg", "abc")
	if d.Dead() || !c.Dead() || !c.Copy().Dead() {
		t.Errorf("dead %t, the copy %t, the copy's copy %t", d.Dead(), c.Dead(), c.Copy().Dead())
	}
	shows(t, "the one that was copied", d, 0, "abc", "abc")
	shows(t, "the one that was copied", d, 1, "xy", "")
	e := c.Copy()
	e.Restart(1)
	shows(t, "the copy's copy, behind Restart", e, 0, "abcd", "abcd")
	shows(t, "the copy's copy, behind Restart", e, 1, "x", "x")
	if !c.Dead() || e.Dead() {
		t.Errorf("the copy's dead %t, its copy's %t", c.Dead(), e.Dead())
	}
	tells(t, "Sync", d.Sync(1), api.OK)
	tells(t, "Append", d.Append(0, []byte("DEF")), api.OK)
	tells(t, "Sync", d.Sync(0), api.ErrDead)
	shows(t, "the copy", c, 0, "abcdefg", "abc")
	shows(t, "the copy", c, 1, "xy", "")
}

// TestCopiesPart lets copies of one go on behind the same bytes: none may write into another one's room.
func TestCopiesPart(t *testing.T) {
	d := disk.New(1, 1000)
	for range 5 {
		d.Append(0, []byte("abc"))
	}
	d.Sync(0)
	d.Append(0, []byte("d"))
	one, two := d.Copy(), d.Copy()
	for i := range 20 {
		one.Append(0, []byte("1"))
		two.Append(0, []byte("2"))
		d.Append(0, []byte("3"))
		for _, x := range []struct {
			d    *disk.Disk
			with string
		}{{one, "1"}, {two, "2"}, {d, "3"}} {
			want := "abcabcabcabcabc" + "d" + string(bytes.Repeat([]byte(x.with), i+1))
			shows(t, "a copy", x.d, 0, want, "abcabcabcabcabc")
			c := x.d.Copy()
			c.Restart(99)
			shows(t, "a copy, behind Restart", c, 0, want, want)
		}
	}
}
