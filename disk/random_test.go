package disk_test

import (
	"math"
	"math/rand"
	"strconv"
	"testing"

	"quilter/api"
	"quilter/disk"
)

// drawn answers a call, most of them such as are carried out.
func drawn(r *rand.Rand, p *plain) act {
	a := r.Intn(len(p.lasts)+2) - 1
	switch k := r.Intn(100); {
	case k < 45:
		b := make([]byte, r.Intn(12))
		r.Read(b)
		return appending(a, string(b))
	case k < 65:
		return cutting(a, r.Intn(len(p.read(a))+3)-1)
	case k < 80:
		return syncing(a)
	case k < 88:
		return arming(r.Intn(40) - 2)
	case k < 92:
		return restarting(math.MaxInt)
	}
	return restarting(r.Intn(30) - 2)
}

// TestLongRows holds long rows of calls against the plain words; now and then the disk is left for a copy of it, and both go on.
func TestLongRows(t *testing.T) {
	for seed := range int64(60) {
		r := rand.New(rand.NewSource(seed))
		areas, room := 1+r.Intn(api.MaxAreas), 20+r.Intn(200)
		d, p := disk.New(areas, room), newPlain(areas, room)
		left, old := d.Copy(), p.copy()
		for i := range 400 {
			if r.Intn(20) == 0 {
				left, old = d, p
				d, p = d.Copy(), p.copy()
			}
			what := "seed " + strconv.FormatInt(seed, 10) + ", call " + strconv.Itoa(i) + ": "
			if x := drawn(r, p); !acts(t, what+x.name, d, p, x) {
				return
			}
			if x := drawn(r, old); !acts(t, what+"of the one that was copied: "+x.name, left, old, x) {
				return
			}
		}
	}
}
