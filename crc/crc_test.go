package crc_test

import (
	"bytes"
	"hash/crc32"
	"math"
	"slices"
	"sync"
	"testing"

	"quilter/crc"
)

// plainStep says the chapter's words over again.
func plainStep(n uint32) uint32 {
	half := n / 2
	if n-2*half == 1 {
		half = half ^ 0xedb88320
	}
	return half
}

// plainMore says the chapter's words over again, without a table.
func plainMore(n uint32, b []byte) uint32 {
	n = n ^ 0xffffffff
	for _, c := range b {
		n = n ^ uint32(c)
		for range 8 {
			n = plainStep(n)
		}
	}
	return n ^ 0xffffffff
}

// mixed answers so many bytes of all kinds, always the same ones.
func mixed(n int) []byte {
	b, x := make([]byte, n), uint32(1)
	for i := range b {
		x = x*1664525 + 1013904223
		b[i] = byte(x >> 24)
	}
	return b
}

// numbers answers the edges of a number, each of its bits alone, and some of all kinds.
func numbers() []uint32 {
	l := []uint32{0, 3, 0xedb88320, 0xedb88321, 0xaaaaaaaa, 0x55555555, math.MaxInt32, math.MaxUint32 - 1, math.MaxUint32}
	for i := range 32 {
		l = append(l, 1<<i)
	}
	b := mixed(400)
	for i := 0; i < len(b); i += 4 {
		l = append(l, uint32(b[i])<<24|uint32(b[i+1])<<16|uint32(b[i+2])<<8|uint32(b[i+3]))
	}
	return l
}

// published are texts, and the sums that are known of them.
var published = map[string]uint32{
	"":                           0,
	"\x00":                       0xd202ef8d,
	"\x00\x00\x00\x00":           0x2144df1c,
	"\xff":                       0xff000000,
	"\xff\xff\xff\xff":           0xffffffff,
	"a":                          0xe8b7be43,
	"abc":                        0x352441c2,
	"123456789":                  0xcbf43926,
	"message digest":             0x20159d7f,
	"abcdefghijklmnopqrstuvwxyz": 0x4c2750bd,
	"The quick brown fox jumps over the lazy dog": 0x414fa339,
}

func TestStep(t *testing.T) {
	for n, want := range map[uint32]uint32{
		0: 0, 1: 0xedb88320, 2: 1, 3: 0xedb88321, 4: 2, 5: 0xedb88322, 0x80000000: 0x40000000,
		0xfffffffe: 0x7fffffff, 0xffffffff: 0x92477cdf, 0xedb88320: 0x76dc4190,
	} {
		if got := crc.Step(n); got != want {
			t.Errorf("Step(%x) = %x; want %x", n, got, want)
		}
	}
	for _, n := range numbers() {
		if got := crc.Step(n); got != plainStep(n) {
			t.Errorf("Step(%x) = %x; want %x", n, got, plainStep(n))
		}
	}
}

func TestPublished(t *testing.T) {
	for s, want := range published {
		if got := crc.Sum([]byte(s)); got != want {
			t.Errorf("Sum(%q) = %x; want %x", s, got, want)
		}
		if got := crc.More(0, []byte(s)); got != want {
			t.Errorf("More(0, %q) = %x; want %x", s, got, want)
		}
	}
}

func TestNothing(t *testing.T) {
	for _, l := range [][][]byte{nil, {}, {nil}, {{}}, {nil, {}, nil}} {
		if got := crc.Sum(l...); got != 0 {
			t.Errorf("Sum of %d pieces without a byte = %x", len(l), got)
		}
	}
	for _, n := range numbers() {
		if crc.More(n, nil) != n || crc.More(n, []byte{}) != n {
			t.Errorf("More(%x) of nothing = %x, %x", n, crc.More(n, nil), crc.More(n, []byte{}))
		}
	}
}

// TestMore goes on from any number, whether there are bytes of that sum or not.
func TestMore(t *testing.T) {
	pieces := [][]byte{{0}, {1}, {0x80}, {0xff}, []byte("a"), []byte("6789"), make([]byte, 40), mixed(300)}
	for _, n := range numbers() {
		for _, b := range pieces {
			got, want := crc.More(n, b), plainMore(n, b)
			if got != want {
				t.Errorf("More(%x, %x) = %x; want %x", n, b, got, want)
			}
			if published := crc32.Update(n, crc32.IEEETable, b); got != published {
				t.Errorf("More(%x, %x) = %x; as published %x", n, b, got, published)
			}
		}
	}
}

// TestByTheWords holds all sums of one byte and of two against the plain words.
func TestByTheWords(t *testing.T) {
	for i := range 256 {
		one := []byte{byte(i)}
		if got, want := crc.Sum(one), plainMore(0, one); got != want {
			t.Fatalf("Sum(%x) = %x; want %x", one, got, want)
		}
		for j := range 256 {
			two := []byte{byte(i), byte(j)}
			if got, want := crc.Sum(two), plainMore(0, two); got != want {
				t.Fatalf("Sum(%x) = %x; want %x", two, got, want)
			}
		}
	}
}

// TestLong asks for sums of each length up to some hundred bytes, and of a great one.
func TestLong(t *testing.T) {
	b := mixed(1 << 22)
	for n := range 600 {
		if got, want := crc.Sum(b[:n]), crc32.ChecksumIEEE(b[:n]); got != want {
			t.Errorf("Sum of %d bytes = %x; want %x", n, got, want)
		}
	}
	for _, b := range [][]byte{b, make([]byte, 1<<22), bytes.Repeat([]byte{0xff}, 1<<16+1)} {
		if got, want := crc.Sum(b), crc32.ChecksumIEEE(b); got != want {
			t.Errorf("Sum of %d bytes = %x; want %x", len(b), got, want)
		}
	}
}

// TestPieces cuts a text in all ways: its sum stays, by Sum and by More, also with nothing between.
func TestPieces(t *testing.T) {
	text, want := []byte("123456789"), uint32(0xcbf43926)
	for cuts := range 1 << (len(text) - 1) {
		var l, apart [][]byte
		from, n := 0, uint32(0)
		for i := 1; i <= len(text); i++ {
			if i < len(text) && cuts>>(i-1)&1 == 0 {
				continue
			}
			l = append(l, text[from:i])
			apart = append(apart, nil, text[from:i], []byte{})
			n = crc.More(n, text[from:i])
			from = i
		}
		if crc.Sum(l...) != want || crc.Sum(apart...) != want || n != want {
			t.Errorf("%q: Sum = %x, with nothing between %x, More = %x; want %x", l, crc.Sum(l...), crc.Sum(apart...), n, want)
		}
	}
}

// TestManyPieces is of a byte a piece.
func TestManyPieces(t *testing.T) {
	b := mixed(1 << 20)
	if got, want := crc.Sum(slices.Collect(slices.Chunk(b, 1))...), crc32.ChecksumIEEE(b); got != want {
		t.Errorf("Sum = %x; want %x", got, want)
	}
}

// TestOrder asks that pieces count in the order in which they stand.
func TestOrder(t *testing.T) {
	one, two := []byte("12345"), []byte("6789")
	if crc.Sum(one, two) != 0xcbf43926 || crc.Sum(two, one) != crc.Sum([]byte("678912345")) || crc.Sum(two, one) == crc.Sum(one, two) {
		t.Errorf("Sum = %x; the other way round %x", crc.Sum(one, two), crc.Sum(two, one))
	}
}

// TestChanged asks that no change of up to four bytes on end, and no one byte more or less, leaves a sum as it was.
func TestChanged(t *testing.T) {
	b := mixed(64)
	sum := crc.Sum(b)
	for i := range b {
		for _, x := range [][]byte{{1}, {0x80}, {0xff}, {1, 1}, {0x10, 0, 1}, {0xff, 0xff, 0xff, 0xff}} {
			other := slices.Clone(b)
			for j, c := range x {
				if i+j < len(other) {
					other[i+j] ^= c
				}
			}
			if crc.Sum(other) == sum {
				t.Errorf("at %d, xor %x: the sum stays %x", i, x, sum)
			}
		}
		if crc.Sum(b[:i], b[i+1:]) == sum || crc.Sum(b[:i], []byte{0}, b[i:]) == sum || crc.Sum(b[:i]) == sum {
			t.Errorf("at %d: the sum of more or less stays %x", i, sum)
		}
	}
}

// TestKeepsNothing asks that what is handed in stays as it is, with the room behind it, and that no later call knows of it.
func TestKeepsNothing(t *testing.T) {
	all := []byte("123456789 and what lies behind")
	l := [][]byte{all[:5], nil, all[5:9]}
	for range 2 {
		if got := crc.Sum(l...); got != 0xcbf43926 {
			t.Errorf("Sum = %x", got)
		}
		if got := crc.More(crc.Sum(l[0]), l[2]); got != 0xcbf43926 {
			t.Errorf("More = %x", got)
		}
	}
	if string(all) != "123456789 and what lies behind" || len(l) != 3 || &l[0][0] != &all[0] || len(l[0]) != 5 || l[1] != nil || &l[2][0] != &all[5] || len(l[2]) != 4 {
		t.Errorf("what was handed in is %q, %q", all, l)
	}
	all[0] = '!'
	if got, want := crc.Sum(l...), crc32.ChecksumIEEE([]byte("!23456789")); got != want {
		t.Errorf("Sum = %x; want %x", got, want)
	}
}

// TestAtOnce calls from several sides: no call has anything in common with another one.
func TestAtOnce(t *testing.T) {
	var all sync.WaitGroup
	b := mixed(1000)
	for i := range 8 {
		all.Go(func() {
			for n := range 100 {
				part := b[i*n:]
				if got, want := crc.Sum(part), crc32.ChecksumIEEE(part); got != want {
					t.Errorf("Sum = %x; want %x", got, want)
				}
			}
		})
	}
	all.Wait()
}
