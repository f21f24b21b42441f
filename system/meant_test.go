package system_test

import (
	"fmt"

	"shunt/api"
	"shunt/flat"
	"shunt/limb"
	"shunt/rat"
	"shunt/stamp"
)

// What the chapter says of a system, reckoned place by place: each sum by itself, through all stamps.

func zero() api.Rat { return api.Rat{Den: limb.Of(1)} }

// stamps are those of all devices; segs are right.
func stamps(f api.Flat, s api.Setting, segs []int) []api.Stamp {
	var all []api.Stamp
	for k, d := range f.Devs {
		seg := 0
		if d.Kind == 'd' || d.Kind == 's' {
			seg, segs = segs[0], segs[1:]
		}
		l, err := stamp.Of(f, k, s, seg)
		if err != api.OK {
			panic(fmt.Sprint(f, k, s, seg, err))
		}
		all = append(all, l...)
	}
	return all
}

// sum is that of the stamps in one place.
func sum(all []api.Stamp, kind, row, col int) api.Rat {
	r := zero()
	for _, x := range all {
		if x.Kind != kind || x.Row != row || x.Col != col {
			continue
		}
		next, err := rat.Add(r, x.Val)
		if err != api.OK {
			panic(err)
		}
		r = next
	}
	return r
}

// A meaning is a row in fractions, of every column, those that are 0 too.
type meaning struct {
	a, h, s []api.Rat
	k       api.Rat
}

func meaningOf(all []api.Stamp, row, unknowns, devs int) meaning {
	m := meaning{k: sum(all, api.StampK, row, 0)}
	for col := range unknowns {
		m.a = append(m.a, sum(all, api.StampA, row, col))
		m.h = append(m.h, sum(all, api.StampH, row, col))
	}
	for col := range devs {
		m.s = append(m.s, sum(all, api.StampS, row, col))
	}
	return m
}

// mult is the least number above 0 of which each denominator is a divisor.
func (m meaning) mult() api.Int {
	least := limb.Of(1)
	for _, l := range [][]api.Rat{m.a, m.h, m.s, {m.k}} {
		for _, r := range l {
			common, _ := limb.Gcd(least, r.Den)
			own, _ := limb.Exact(r.Den, common)
			least, _ = limb.Mul(least, own)
		}
	}
	return least
}

func times(r api.Rat, mult api.Int) api.Int {
	by, err := limb.Exact(mult, r.Den)
	if err != api.OK {
		panic(err)
	}
	val, err := limb.Mul(r.Num, by)
	if err != api.OK {
		panic(err)
	}
	return val
}

func cellsOf(l []api.Rat, mult api.Int) []api.Cell {
	var cells []api.Cell
	for col, r := range l {
		if len(r.Num.Limbs) > 0 {
			cells = append(cells, api.Cell{Col: col, Val: times(r, mult)})
		}
	}
	return cells
}

// meant is what the chapter says that Build answers of a right flat circuit, a right setting, and right segments.
func meant(f api.Flat, s api.Setting, segs []int) api.System {
	all := stamps(f, s, segs)
	unknowns, _ := flat.Unknowns(f)
	var out api.System
	for row := range unknowns {
		m := meaningOf(all, row, unknowns, len(f.Devs))
		mult := m.mult()
		out.Rows = append(out.Rows, api.Row{Mult: mult, A: cellsOf(m.a, mult), H: cellsOf(m.h, mult), S: cellsOf(m.s, mult), K: times(m.k, mult)})
	}
	return out
}
