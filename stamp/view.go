package stamp

import (
	"shunt/api"
	"shunt/model"
	"shunt/num"
)

// A view is a device of a right flat circuit as the equations see it.
type view struct {
	kind  byte
	place int
	// The unknowns of its nodes, as many as it has, of its branch, and of the branch of its Ref.
	a, b, c, d, j, ref int
	value              api.Num
	// The share of its current that goes with its voltage, and the one that doesn't, of d and s.
	slope, own api.Rat
}

// seen is the device at the place k, in the segment seg where it has such.
func seen(f api.Flat, branches []int, k, seg int) (view, api.Errno) {
	if k < 0 || k >= len(f.Devs) {
		return view{}, api.ErrArg
	}
	dev := f.Devs[k]
	v := view{kind: dev.Kind, place: k, j: branches[k], ref: branches[dev.Ref], value: dev.Value}
	v.a, v.b = unknownOf(dev.Nodes[0]), unknownOf(dev.Nodes[1])
	if len(dev.Nodes) > 2 {
		v.c, v.d = unknownOf(dev.Nodes[2]), unknownOf(dev.Nodes[3])
	}
	if dev.Kind != 'd' && dev.Kind != 's' {
		return v, api.OK
	}
	slope, own, err := model.Part(dev.Model, seg)
	if err != api.OK {
		return view{}, err
	}
	v.slope, v.own = slope, own
	return v, api.OK
}

// equations are the device's stamps in a right setting.
func (v view) equations(s api.Setting) []api.Stamp {
	var l sheet
	switch v.kind {
	case 'r':
		l.across(v.a, v.b, v.a, v.b, inverse(v.value))
	case 'g':
		l.across(v.a, v.b, v.c, v.d, valueOf(v.value))
	case 'i':
		l.put(api.StampS, v.a, v.place, minus(one()))
		l.put(api.StampS, v.b, v.place, one())
	case 'f':
		l.through(v.a, v.b, v.ref, valueOf(v.value))
	case 'd':
		l.across(v.a, v.b, v.a, v.b, v.slope)
		l.put(api.StampK, v.a, 0, minus(v.own))
		l.put(api.StampK, v.b, 0, v.own)
	case 's':
		l.across(v.a, v.b, v.a, v.b, v.slope)
	default:
		l.through(v.a, v.b, v.j, one())
		v.branch(&l, s)
	}
	return l.stamps
}

// branch puts what the device, one of those with a branch, says in its branch's row, and a transformer at its other side.
func (v view) branch(l *sheet, s api.Setting) {
	switch v.kind {
	case 'v':
		l.volts(api.StampA, v.j, v.a, v.b, one())
		l.put(api.StampS, v.j, v.place, one())
	case 'e':
		l.volts(api.StampA, v.j, v.a, v.b, one())
		l.volts(api.StampA, v.j, v.c, v.d, minus(valueOf(v.value)))
	case 'h':
		l.volts(api.StampA, v.j, v.a, v.b, one())
		l.put(api.StampA, v.j, v.ref, minus(valueOf(v.value)))
	case 't':
		ratio := minus(valueOf(v.value))
		l.through(v.c, v.d, v.j, ratio)
		l.volts(api.StampA, v.j, v.a, v.b, one())
		l.volts(api.StampA, v.j, v.c, v.d, ratio)
	case 'c':
		v.capacitor(l, s)
	case 'l':
		v.inductor(l, s)
	}
}

// capacitor puts that its current is y times the rise of its voltage; by Trap that the currents of both steps together are.
func (v view) capacitor(l *sheet, s api.Setting) {
	l.put(api.StampA, v.j, v.j, one())
	if s.Mode == api.Op {
		return
	}
	y := minus(perStep(v.value, s))
	l.volts(api.StampA, v.j, v.a, v.b, y)
	l.volts(api.StampH, v.j, v.a, v.b, y)
	if s.Method == api.Trap {
		l.put(api.StampH, v.j, v.j, minus(one()))
	}
}

// inductor puts that its voltage is y times the rise of its current; by Trap that the voltages of both steps together are.
func (v view) inductor(l *sheet, s api.Setting) {
	l.volts(api.StampA, v.j, v.a, v.b, one())
	if s.Mode == api.Op {
		return
	}
	y := minus(perStep(v.value, s))
	l.put(api.StampA, v.j, v.j, y)
	l.put(api.StampH, v.j, v.j, y)
	if s.Method == api.Trap {
		l.volts(api.StampH, v.j, v.a, v.b, minus(one()))
	}
}

// current is how the device's current is made.
func (v view) current() []api.Stamp {
	var l sheet
	switch v.kind {
	case 'r':
		l.volts(api.StampA, 0, v.a, v.b, inverse(v.value))
	case 'g':
		l.volts(api.StampA, 0, v.c, v.d, valueOf(v.value))
	case 'i':
		l.put(api.StampS, 0, v.place, one())
	case 'f':
		l.put(api.StampA, 0, v.ref, valueOf(v.value))
	case 'd':
		l.volts(api.StampA, 0, v.a, v.b, v.slope)
		l.put(api.StampK, 0, 0, v.own)
	case 's':
		l.volts(api.StampA, 0, v.a, v.b, v.slope)
	default:
		l.put(api.StampA, 0, v.j, one())
	}
	return l.stamps
}

func valueOf(x api.Num) api.Rat {
	r, _ := num.Value(x)
	return r
}

func one() api.Rat { return valueOf(api.Num{Mant: 1}) }
