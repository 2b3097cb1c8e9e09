package disk

import "quilter/api"

// maxUnits is for how many units power may be armed.
const maxUnits = 1000000000

// power is what each byte, each cut and each sync takes a unit of. At first there is no end of it.
type power struct {
	armed bool
	units int // that are left, while it is armed
	lost  bool
}

// arm leaves n units; nothing is done while power is lost.
func (p *power) arm(n int) {
	if !p.lost {
		p.armed, p.units = true, min(max(n, 0), maxUnits)
	}
}

// spend takes n units, or as many as there are, and answers how many these were; if they were too few, power is lost.
func (p *power) spend(n int) int {
	if !p.armed {
		return n
	}
	spent := min(n, p.units)
	p.units -= spent
	p.lost = spent < n
	return spent
}

// state answers ErrDead, if power is lost.
func (p *power) state() api.Errno {
	if p.lost {
		return api.ErrDead
	}
	return api.OK
}
