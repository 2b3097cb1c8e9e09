package frame_test

import (
	"bytes"
	"encoding/binary"
	"hash/crc32"
	"math"
	"math/rand"
	"slices"
	"strings"
	"testing"

	"quilter/api"
	"quilter/frame"
)

// lengths are the edges of how many bytes a frame may have, and some between.
var lengths = []int{0, 1, 2, 3, 4, 7, 8, 9, 255, 256, 257, 4096, 32767, 32768, api.MaxFrame - 1, api.MaxFrame}

// mixed answers so many bytes of all kinds, always the same ones.
func mixed(n int) []byte {
	b, x := make([]byte, n), uint32(1)
	for i := range b {
		x = x*1664525 + 1013904223
		b[i] = byte(x >> 24)
	}
	return b
}

// plainFrame says the chapter's words over again, of as many bytes as are handed in.
func plainFrame(b []byte) []byte {
	size := binary.BigEndian.AppendUint32(nil, uint32(len(b)))
	sum := crc32.ChecksumIEEE(slices.Concat(size, b))
	return slices.Concat(binary.BigEndian.AppendUint32(size, sum), b)
}

// plainNext says the chapter's words over again: of all frames that there may be, which one does b begin with?
func plainNext(b []byte) ([]byte, int) {
	if len(b) >= 8 {
		n := int64(binary.BigEndian.Uint32(b)) + 8
		if n <= api.MaxFrame+8 && n <= int64(len(b)) && bytes.Equal(plainFrame(b[8:n]), b[:n]) {
			return b[8:n], int(n)
		}
	}
	return nil, 0
}

// plainAll says the chapter's words over again.
func plainAll(b []byte) ([][]byte, int) {
	var l [][]byte
	all := 0
	for {
		x, n := plainNext(b[all:])
		if n == 0 {
			return l, all
		}
		l, all = append(l, x), all+n
	}
}

// sameLists tells whether two lists have the same bytes, where one that is nil and one that is empty are the same.
func sameLists(a [][]byte, b [][]byte) bool {
	return slices.EqualFunc(a, b, bytes.Equal)
}

// holds asks what b begins with, and holds it against the plain words.
func holds(t *testing.T, b []byte) {
	t.Helper()
	shown := b[:min(len(b), 40)]
	wantX, wantN := plainNext(b)
	if x, n := frame.Next(b); !bytes.Equal(x, wantX) || n != wantN {
		t.Errorf("Next of %d bytes %x = %d bytes, %d; want %d bytes, %d", len(b), shown, len(x), n, len(wantX), wantN)
	}
	wantL, wantN := plainAll(b)
	if l, n := frame.All(b); !sameLists(l, wantL) || n != wantN {
		t.Errorf("All of %d bytes %x = %d frames, %d; want %d frames, %d", len(b), shown, len(l), n, len(wantL), wantN)
	}
}

// none asks that b begins with no frame.
func none(t *testing.T, what string, b []byte) {
	t.Helper()
	if x, n := frame.Next(b); len(x) != 0 || n != 0 {
		t.Errorf("%s: Next = %d bytes, %d", what, len(x), n)
	}
	if l, n := frame.All(b); len(l) != 0 || n != 0 {
		t.Errorf("%s: All = %d frames, %d", what, len(l), n)
	}
}

// encoded answers the frame of b, which must have one.
func encoded(t *testing.T, b []byte) []byte {
	t.Helper()
	f, e := frame.Encode(b)
	if e != api.OK {
		t.Fatalf("Encode of %d bytes: %d", len(b), e)
	}
	return f
}

func TestNum(t *testing.T) {
	const n = 0x0102030405060708
	for wide, want := range map[int]string{
		0: "", 1: "\x08", 2: "\x07\x08", 3: "\x06\x07\x08", 4: "\x05\x06\x07\x08", 5: "\x04\x05\x06\x07\x08", 6: "\x03\x04\x05\x06\x07\x08",
		7: "\x02\x03\x04\x05\x06\x07\x08", 8: "\x01\x02\x03\x04\x05\x06\x07\x08",
		-1: "", -8: "", math.MinInt: "", 9: "\x01\x02\x03\x04\x05\x06\x07\x08", 64: "\x01\x02\x03\x04\x05\x06\x07\x08", math.MaxInt: "\x01\x02\x03\x04\x05\x06\x07\x08",
	} {
		if got := frame.Num(n, wide); string(got) != want {
			t.Errorf("Num(%x, %d) = %x; want %x", uint64(n), wide, got, want)
		}
	}
	for _, x := range []struct {
		n    uint64
		wide int
		want string
	}{
		{0, 0, ""}, {0, 1, "\x00"}, {0, 8, strings.Repeat("\x00", 8)}, {1, 1, "\x01"}, {1, 4, "\x00\x00\x00\x01"}, {255, 1, "\xff"}, {256, 1, "\x00"}, {256, 2, "\x01\x00"},
		{1 << 16, 2, "\x00\x00"}, {1 << 16, 4, "\x00\x01\x00\x00"}, {1<<32 + 5, 4, "\x00\x00\x00\x05"}, {math.MaxUint64, 3, "\xff\xff\xff"}, {math.MaxUint64, 8, strings.Repeat("\xff", 8)},
		{1 << 63, 8, "\x80\x00\x00\x00\x00\x00\x00\x00"}, {1 << 63, 7, strings.Repeat("\x00", 7)},
	} {
		if got := frame.Num(x.n, x.wide); string(got) != x.want {
			t.Errorf("Num(%x, %d) = %x; want %x", x.n, x.wide, got, x.want)
		}
	}
}

func TestGet(t *testing.T) {
	if frame.Get(nil) != 0 || frame.Get([]byte{}) != 0 {
		t.Errorf("Get of nothing = %d, %d", frame.Get(nil), frame.Get([]byte{}))
	}
	for s, want := range map[string]uint64{
		"\x00": 0, "\x01": 1, "\xff": 255, "\x01\x00": 256, "\x00\x01": 1, "\x00\x00\x00": 0, "\x01\x02\x03": 0x010203, "\x00\x00\x00\x03": 3, "\xff\xff\xff\xff": math.MaxUint32,
		"\x01\x02\x03\x04\x05\x06\x07": 0x01020304050607, "\x01\x02\x03\x04\x05\x06\x07\x08": 0x0102030405060708, "\x80\x00\x00\x00\x00\x00\x00\x00": 1 << 63,
		"\xff\xff\xff\xff\xff\xff\xff\xff": math.MaxUint64, "\x09\x01\x02\x03\x04\x05\x06\x07\x08": 0x0102030405060708, "\xff\x00\x00\x00\x00\x00\x00\x00\x00": 0,
		"\x00\x00\x00\x00\x00\x00\x00\x00\x01": 1, strings.Repeat("\xff", 100) + "\x00\x00\x00\x00\x00\x00\x00\x05": 5, strings.Repeat("\x00", 100): 0,
	} {
		if got := frame.Get([]byte(s)); got != want {
			t.Errorf("Get(%x) = %x; want %x", s, got, want)
		}
	}
}

// TestNumbersThereAndBack asks it of each width, the numbers' edges, and each of their bits alone.
func TestNumbersThereAndBack(t *testing.T) {
	numbers := []uint64{0, 5, 255, 256, 0x0102030405060708, math.MaxInt64, math.MaxUint64 - 1, math.MaxUint64}
	for i := range 64 {
		numbers = append(numbers, 1<<i, 1<<i-1, ^uint64(1<<i))
	}
	for _, n := range numbers {
		for wide := range 9 {
			b := frame.Num(n, wide)
			// 8 wide, the shift leaves nothing, and nothing of the number is taken away.
			want := n & (uint64(1)<<(8*wide) - 1)
			if len(b) != wide || frame.Get(b) != want {
				t.Errorf("Num(%x, %d) = %x, Get = %x; want %x", n, wide, b, frame.Get(b), want)
			}
		}
	}
	all := mixed(200)
	for i := range len(all) - 8 {
		for wide := range 9 {
			if b := all[i : i+wide]; !bytes.Equal(frame.Num(frame.Get(b), wide), b) {
				t.Errorf("Num of Get(%x) = %x", b, frame.Num(frame.Get(b), wide))
			}
		}
	}
}

// TestEncodeWritten holds frames against such as are written out, the first one with a sum that is published.
func TestEncodeWritten(t *testing.T) {
	for s, want := range map[string]string{
		"":                  "\x00\x00\x00\x00\x21\x44\xdf\x1c",
		"a":                 "\x00\x00\x00\x01\xe5\x8c\x97\x92a",
		"abc":               "\x00\x00\x00\x03\x45\xbc\xe8\x40abc",
		"\x00":              "\x00\x00\x00\x01\xdf\x39\xc6\x5c\x00",
		"\x00\x00\x00\x00":  "\x00\x00\x00\x04\x90\xa2\x79\xa9\x00\x00\x00\x00",
		"\xff\xff\xff\xff.": "\x00\x00\x00\x05\x53\xcf\x80\x30\xff\xff\xff\xff.",
	} {
		if got, e := frame.Encode([]byte(s)); string(got) != want || e != api.OK {
			t.Errorf("Encode(%x) = %x, %d; want %x", s, got, e, want)
		}
	}
	if f, e := frame.Encode(nil); string(f) != "\x00\x00\x00\x00\x21\x44\xdf\x1c" || e != api.OK {
		t.Errorf("Encode of nil = %x, %d", f, e)
	}
}

func TestEncode(t *testing.T) {
	b := mixed(api.MaxFrame)
	for _, n := range lengths {
		for _, b := range [][]byte{b[:n], make([]byte, n), bytes.Repeat([]byte{0xff}, n)} {
			if f := encoded(t, b); !bytes.Equal(f, plainFrame(b)) {
				t.Errorf("Encode of %d bytes has %d bytes and begins with %x; want %x", n, len(f), f[:8], plainFrame(b)[:8])
			}
		}
	}
}

func TestEncodeOfTooMuch(t *testing.T) {
	for _, n := range []int{api.MaxFrame + 1, api.MaxFrame + 8, 2 * api.MaxFrame, 1 << 22} {
		if f, e := frame.Encode(make([]byte, n)); len(f) != 0 || e != api.ErrLong {
			t.Errorf("Encode of %d bytes = %d bytes, %d", n, len(f), e)
		}
	}
}

// TestThereAndBack reads each frame, alone and with others behind it.
func TestThereAndBack(t *testing.T) {
	b := mixed(api.MaxFrame)
	for _, n := range lengths {
		f := encoded(t, b[:n])
		for _, behind := range [][]byte{nil, {0}, {1, 2}, f, f[:len(f)-1], make([]byte, 100), encoded(t, nil), mixed(300)} {
			if x, size := frame.Next(slices.Concat(f, behind)); !bytes.Equal(x, b[:n]) || size != n+8 {
				t.Errorf("Next of the frame of %d bytes, and %d bytes = %d bytes, %d", n, len(behind), len(x), size)
			}
		}
	}
}

func TestNextOfNothing(t *testing.T) {
	none(t, "nil", nil)
	none(t, "empty", []byte{})
	for n := 1; n < 200; n++ {
		none(t, "noughts", make([]byte, n))
		none(t, "ff", bytes.Repeat([]byte{0xff}, n))
		none(t, "mixed", mixed(n))
	}
}

// TestFrameOfNothing asks that a frame without a byte is one: only the number tells it from none.
func TestFrameOfNothing(t *testing.T) {
	f := encoded(t, nil)
	if x, n := frame.Next(f); len(x) != 0 || n != 8 {
		t.Errorf("Next = %x, %d", x, n)
	}
	if l, n := frame.All(f); len(l) != 1 || len(l[0]) != 0 || n != 8 {
		t.Errorf("All = %x, %d", l, n)
	}
}

// TestCutShort cuts frames everywhere: what is left of one is none.
func TestCutShort(t *testing.T) {
	b := mixed(api.MaxFrame)
	for n := range 60 {
		f := encoded(t, b[:n])
		for cut := range f {
			none(t, "cut short, the rest in the room behind", f[:cut])
			none(t, "cut short", slices.Clone(f[:cut]))
			holds(t, f[cut:])
		}
	}
	f := encoded(t, b)
	for _, cut := range []int{0, 7, 8, 9, 4096, api.MaxFrame - 1, api.MaxFrame, api.MaxFrame + 7} {
		none(t, "the longest, cut short", f[:cut])
	}
}

// TestSpoilt changes each bit of frames, alone and with others behind: none of them is told any more.
func TestSpoilt(t *testing.T) {
	for n := range 40 {
		f := encoded(t, mixed(n))
		for _, whole := range [][]byte{f, slices.Concat(f, f, f), slices.Concat(f, make([]byte, 300))} {
			for bit := range 8 * len(f) {
				other := slices.Clone(whole)
				other[bit/8] ^= 1 << (bit % 8)
				none(t, "a bit is another one", other)
			}
		}
	}
}

// TestOtherForms writes what is nearly a frame: in each of them just one thing is otherwise.
func TestOtherForms(t *testing.T) {
	b := []byte("abc")
	big, little := binary.BigEndian, binary.LittleEndian
	size := big.AppendUint32(nil, 3)
	sum := crc32.ChecksumIEEE(slices.Concat(size, b))
	if x, n := frame.Next(slices.Concat(big.AppendUint32(size, sum), b)); string(x) != "abc" || n != 11 {
		t.Fatalf("Next = %q, %d", x, n)
	}
	for what, f := range map[string][]byte{
		"the size's lowest byte first": slices.Concat(big.AppendUint32(little.AppendUint32(nil, 3), crc32.ChecksumIEEE(slices.Concat(little.AppendUint32(nil, 3), b))), b),
		"the sum's lowest byte first":  slices.Concat(little.AppendUint32(size, sum), b),
		"the sum of the bytes alone":   slices.Concat(big.AppendUint32(size, crc32.ChecksumIEEE(b)), b),
		"the sum of the size alone":    slices.Concat(big.AppendUint32(size, crc32.ChecksumIEEE(size)), b),
		"the bytes summed first":       slices.Concat(big.AppendUint32(size, crc32.ChecksumIEEE(slices.Concat(b, size))), b),
		"the sum, bit by bit":          slices.Concat(big.AppendUint32(size, ^sum), b),
		"no sum":                       slices.Concat(big.AppendUint32(size, 0), b),
		"the sum ahead of the size":    slices.Concat(big.AppendUint32(nil, sum), size, b),
		"the sum behind the bytes":     slices.Concat(size, b, big.AppendUint32(nil, sum)),
		"another table":                slices.Concat(big.AppendUint32(size, crc32.Checksum(slices.Concat(size, b), crc32.MakeTable(crc32.Castagnoli))), b),
		"a byte ahead":                 slices.Concat([]byte{0}, plainFrame(b)),
		"all bytes counted":            slices.Concat(big.AppendUint32(big.AppendUint32(nil, 11), crc32.ChecksumIEEE(slices.Concat(big.AppendUint32(nil, 11), b))), b),
	} {
		none(t, what, f)
		none(t, what+", and more", slices.Concat(f, make([]byte, 100)))
	}
}

// TestTooLong has the right sum and all its bytes, but more of them than a frame may have.
func TestTooLong(t *testing.T) {
	b := mixed(1 << 20)
	for _, n := range []int{api.MaxFrame + 1, api.MaxFrame + 2, api.MaxFrame + 8, 2 * api.MaxFrame, len(b)} {
		f := plainFrame(b[:n])
		none(t, "too long", f)
		none(t, "too long, and a frame behind", slices.Concat(f, encoded(t, b[:3])))
	}
}

// TestGreatSizes tells more bytes than there are, up to what four bytes can tell, with the sum of those that are there.
func TestGreatSizes(t *testing.T) {
	for _, there := range []int{0, 1, 8, 100, api.MaxFrame} {
		b := mixed(there)
		for _, n := range []uint32{uint32(there) + 1, api.MaxFrame - 1, api.MaxFrame, api.MaxFrame + 1, math.MaxInt32 - 8, math.MaxInt32 - 7, math.MaxInt32, 1 << 31, math.MaxUint32 - 8, math.MaxUint32 - 7, math.MaxUint32} {
			if int64(n) <= int64(there) {
				continue
			}
			size := binary.BigEndian.AppendUint32(nil, n)
			for _, sum := range []uint32{crc32.ChecksumIEEE(slices.Concat(size, b)), crc32.ChecksumIEEE(size), 0, math.MaxUint32} {
				none(t, "more than there are", slices.Concat(binary.BigEndian.AppendUint32(size, sum), b))
			}
		}
	}
}

func TestAll(t *testing.T) {
	a, b, c := encoded(t, []byte("one")), encoded(t, nil), encoded(t, []byte("three"))
	spoilt := slices.Clone(b)
	spoilt[7] ^= 1
	for what, x := range map[string]struct {
		b    []byte
		want string
		n    int
	}{
		"one":                       {a, "one", 11},
		"three":                     {slices.Concat(a, b, c), "one,,three", 32},
		"one twice":                 {slices.Concat(a, a), "one,one", 22},
		"half of another":           {slices.Concat(a, c[:6]), "one", 11},
		"all but a byte of another": {slices.Concat(a, b, c[:12]), "one,", 19},
		"a byte behind":             {slices.Concat(a, c, []byte{0}), "one,three", 24},
		"noughts behind":            {slices.Concat(a, make([]byte, 100)), "one", 11},
		"spoilt between":            {slices.Concat(a, spoilt, c), "one", 11},
		"a byte between":            {slices.Concat(a, []byte{7}, c), "one", 11},
		"half of one between":       {slices.Concat(a, c[:9], c), "one", 11},
		"too long between":          {slices.Concat(a, plainFrame(make([]byte, api.MaxFrame+1)), c), "one", 11},
		"frames in a frame":         {encoded(t, slices.Concat(a, c)), string(slices.Concat(a, c)), 32},
	} {
		l, n := frame.All(x.b)
		if got := string(bytes.Join(l, []byte(","))); got != x.want || n != x.n {
			t.Errorf("%s: All = %q, %d; want %q, %d", what, got, n, x.want, x.n)
		}
	}
}

func TestJoin(t *testing.T) {
	b := mixed(api.MaxFrame)
	for _, l := range [][][]byte{
		nil, {}, {nil}, {{}}, {nil, {}, nil}, {b[:1]}, {b[:3], b[:3]}, {b[:3], nil, b[3:9], b[:1]}, {b, b[1:], nil, b}, {make([]byte, 8), make([]byte, 8)},
	} {
		var want []byte
		for _, x := range l {
			want = append(want, plainFrame(x)...)
		}
		f, e := frame.Join(l...)
		if !bytes.Equal(f, want) || e != api.OK {
			t.Errorf("Join of %d = %d bytes, %d; want %d bytes", len(l), len(f), e, len(want))
		}
		if back, n := frame.All(f); !sameLists(back, l) || n != len(f) {
			t.Errorf("Join of %d, and All = %d frames, %d", len(l), len(back), n)
		}
	}
}

func TestJoinOfTooMuch(t *testing.T) {
	long, short := make([]byte, api.MaxFrame+1), []byte("a")
	for _, l := range [][][]byte{{long}, {long, long}, {long, short}, {short, long}, {nil, long}, {short, short, long, short}, {make([]byte, api.MaxFrame), short, make([]byte, 1<<20)}} {
		if f, e := frame.Join(l...); len(f) != 0 || e != api.ErrLong {
			t.Errorf("Join of %d = %d bytes, %d", len(l), len(f), e)
		}
	}
}

// TestPowerLost cuts what was joined everywhere: there are all frames that are whole, and nothing of the next one.
func TestPowerLost(t *testing.T) {
	var l [][]byte
	var ends []int
	end := 0
	for _, n := range []int{3, 0, 0, 12, 1, 300, 0, 8} {
		end += n + 8
		l, ends = append(l, mixed(n)), append(ends, end)
	}
	f, e := frame.Join(l...)
	if e != api.OK || len(f) != end {
		t.Fatalf("Join = %d bytes, %d; want %d bytes", len(f), e, end)
	}
	for cut := range len(f) + 1 {
		whole, n := 0, 0
		for whole < len(ends) && ends[whole] <= cut {
			n = ends[whole]
			whole++
		}
		got, size := frame.All(f[:cut])
		if !sameLists(got, l[:whole]) || size != n {
			t.Errorf("All of the first %d bytes = %d frames, %d; want %d frames, %d", cut, len(got), size, whole, n)
		}
		// What was cut can be gone on with: behind the frames that are left another one is told.
		if more, size := frame.All(slices.Concat(f[:n], plainFrame([]byte("more")))); len(more) != whole+1 || string(more[whole]) != "more" || size != n+12 {
			t.Errorf("All of the first %d bytes, and one more = %d frames, %d", n, len(more), size)
		}
	}
}

// TestMany has as many frames as a disk has room for.
func TestMany(t *testing.T) {
	l := make([][]byte, api.MaxDisk/16)
	for i := range l {
		l[i] = binary.BigEndian.AppendUint64(nil, uint64(i))
	}
	f, e := frame.Join(l...)
	if e != api.OK || len(f) != api.MaxDisk {
		t.Fatalf("Join = %d bytes, %d", len(f), e)
	}
	if back, n := frame.All(f); !sameLists(back, l) || n != len(f) {
		t.Errorf("All = %d frames, %d", len(back), n)
	}
}

// TestByTheWords holds rows of frames, some of them spoilt, against the plain words.
func TestByTheWords(t *testing.T) {
	r := rand.New(rand.NewSource(1))
	for range 20000 {
		var b []byte
		for range r.Intn(5) {
			b = append(b, plainFrame(mixed(r.Intn(20)))...)
		}
		for range r.Intn(3) {
			if len(b) == 0 {
				break
			}
			switch i := r.Intn(len(b)); r.Intn(5) {
			case 0:
				b[i] ^= 1 << r.Intn(8)
			case 1:
				b = slices.Delete(b, i, min(i+1+r.Intn(3), len(b)))
			case 2:
				b = slices.Insert(b, i, byte(r.Intn(256)))
			case 3:
				b = b[:i]
			case 4:
				b = slices.Insert(b, i, plainFrame(mixed(r.Intn(4)))...)
			}
		}
		holds(t, b)
	}
}

// FuzzAny asks of any bytes that the calls end, and tell what the plain words do.
func FuzzAny(f *testing.F) {
	f.Add([]byte(nil))
	f.Add(plainFrame(nil))
	f.Add(slices.Concat(plainFrame([]byte("abc")), plainFrame(nil), []byte{0, 0, 0, 1}))
	f.Add(bytes.Repeat([]byte{0xff}, 20))
	f.Fuzz(func(t *testing.T, b []byte) {
		holds(t, b)
		if len(b) > api.MaxFrame {
			return
		}
		if l, n := frame.All(plainFrame(b)); len(l) != 1 || !bytes.Equal(l[0], b) || n != len(b)+8 {
			t.Errorf("All of a frame = %d frames, %d", len(l), n)
		}
	})
}
