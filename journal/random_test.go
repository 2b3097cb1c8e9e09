package journal_test

import (
	"math"
	"math/rand"
	"strconv"
	"testing"

	"quilter/api"
)

// text answers a drawn one, now and then a long one.
func text(r *rand.Rand) string {
	n := r.Intn(30)
	switch r.Intn(40) {
	case 0:
		n = 65526 + r.Intn(5)
	case 1:
		n = r.Intn(3000)
	}
	b := make([]byte, n)
	r.Read(b)
	return string(b)
}

// near answers a number that is equal to n, or close to it; now and then another one.
func near(r *rand.Rand, n uint64) uint64 {
	switch r.Intn(8) {
	case 0:
		return math.MaxUint64
	case 1:
		return r.Uint64()
	}
	return n + uint64(r.Intn(4)) - 2
}

// laid answers bytes that may stand in an area, right or wrong ones.
func laid(r *rand.Rand, seq uint64) []byte {
	switch r.Intn(5) {
	case 0: // bytes of no form
		return []byte(text(r))
	case 1: // too few bytes for a number
		return framed(make([]byte, r.Intn(9)))
	case 2: // cut short, or one bit changed
		b := numbered(seq, text(r))
		if r.Intn(2) == 0 {
			return b[:r.Intn(len(b))]
		}
		b[r.Intn(len(b))] ^= 1 << r.Intn(8)
		return b
	}
	return numbered(near(r, seq), text(r))
}

// drawn answers an act; those of the journal come most often.
func drawn(r *rand.Rand, x pair) act {
	a := r.Intn(3)
	switch k := r.Intn(100); {
	case k < 30:
		return appending(text(r))
	case k < 42:
		return syncing()
	case k < 52:
		return checkpointing(text(r))
	case k < 68:
		return opening()
	case k < 76:
		return laying(a, laid(r, x.j.Seq()))
	case k < 82:
		return cutting(a, r.Intn(len(x.d.Read(a))+2))
	case k < 87:
		return arming(r.Intn(120))
	case k < 90:
		return restarting(math.MaxInt)
	}
	return restarting(r.Intn(60) - 2)
}

// TestLongRows holds long rows of acts against the plain words, on disks of all numbers of areas, with little room and with much; now and then the pair is left for a copy of it, and both go on.
func TestLongRows(t *testing.T) {
	for seed := range int64(150) {
		r := rand.New(rand.NewSource(seed))
		areas, room := 3+r.Intn(api.MaxAreas-2), []int{60, 300, 3000, 200000}[r.Intn(4)]
		if r.Intn(10) == 0 {
			areas = r.Intn(3)
		}
		x := newPair(areas, room)
		x.open(t, "Open")
		left := x.copy()
		for i := range 300 {
			if r.Intn(20) == 0 {
				left = x
				x = x.copy()
			}
			what := "seed " + strconv.FormatInt(seed, 10) + ", call " + strconv.Itoa(i) + ": "
			if a := drawn(r, x); !a.do(t, what+a.name, &x) {
				return
			}
			if a := drawn(r, left); !a.do(t, what+"of the one that was copied: "+a.name, &left) {
				return
			}
		}
	}
}
