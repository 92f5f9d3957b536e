package disk

// rig: what is to go wrong. Its zero: nothing.
type rig struct {
	units        int // the machine falls within the last of these; 0: it isn't armed
	after, calls int // so many changing calls go on, then so many fail
	part         int // bytes that an Append lays which fails
}

// Arm lets the machine fall within a unit of what changing calls cost from now on.
func (d *Disk) Arm(units int) {
	d.units = max(units, 0)
}

// Fail lets changing calls fail, behind some that go well.
func (d *Disk) Fail(after, calls, part int) {
	d.after, d.calls, d.part = max(after, 0), max(calls, 0), max(part, 0)
}

// fails counts a changing call, and tells whether it is one of those that fail.
func (r *rig) fails() bool {
	if r.after > 0 {
		r.after--
		return false
	}
	if r.calls > 0 {
		r.calls--
		return true
	}
	return false
}

// charge takes a call's units: at which of them, from 1 on, the last one left was taken, or 0.
func (r *rig) charge(cost int) int {
	if r.units > cost {
		r.units -= cost
		return 0
	}
	return r.units
}
