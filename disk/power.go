package disk

import "kinfolk/api"

// power is whether a disk is up, and when it is to go down by itself.
type power struct {
	off   bool
	armed int // the write that is so many from now is the last one; 0: none is
	torn  int // how much is done of that write
}

// count counts a write that is to be done; ErrDown: the power goes at it.
func (w *power) count() api.Errno {
	if w.armed == 0 {
		return api.OK
	}
	w.armed--
	if w.armed > 0 {
		return api.OK
	}
	w.off = true
	return api.ErrDown
}

// Arm says at which write from now on the power is to go.
func (d *Disk) Arm(writes, torn int) {
	if d != nil {
		d.armed, d.torn = max(writes, 0), max(torn, 0)
	}
}

// Armed answers in how many writes the power is to go.
func (d *Disk) Armed() int {
	if d == nil {
		return 0
	}
	return d.armed
}

// Up says whether the power is there.
func (d *Disk) Up() bool { return d != nil && !d.off }

// Off takes the power away.
func (d *Disk) Off() {
	if d != nil {
		d.off = true
	}
}

// On gives the power back, for good.
func (d *Disk) On() {
	if d != nil {
		d.power = power{}
	}
}
