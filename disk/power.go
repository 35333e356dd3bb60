package disk

import "gristmill/api"

// plannedCut is at which operation the power is to go off; nothing was planned, if it isn't set.
type plannedCut struct {
	set  bool
	op   int
	part int
}

// CutAt says at which operation the power goes off.
func (d *Disk) CutAt(op, part int) {
	if d != nil {
		d.next = plannedCut{set: true, op: op, part: part}
	}
}

// Cut turns the power off.
func (d *Disk) Cut(part int) {
	if d == nil || d.off {
		return
	}
	for _, f := range d.files {
		f.cut(part)
	}
	d.off = true
}

// Off tells whether the power is off.
func (d *Disk) Off() bool { return d != nil && d.off }

// On turns the power on.
func (d *Disk) On() {
	if d != nil {
		d.off = false
	}
}

// Ops is how many operations there were.
func (d *Disk) Ops() int {
	if d == nil {
		return 0
	}
	return d.ops
}

// count gives an operation its number. If the power is to go off at that one, it does, and ErrPower tells it.
func (d *Disk) count() api.Errno {
	number := d.ops
	d.ops++
	// Numbers only rise, so a cut that was planned for one that was counted already never comes to be.
	if !d.next.set || number != d.next.op {
		return api.OK
	}
	d.Cut(d.next.part)
	return api.ErrPower
}
