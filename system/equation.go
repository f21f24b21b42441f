package system

import (
	"slices"

	"shunt/api"
	"shunt/rat"
	"shunt/stamp"
)

// nowhere is a place at which no device stands.
const nowhere = -1

// refusal is what f and s are refused for. Layer 11 looks at both ahead of the place: where it has only that to refuse, they
// are right.
func refusal(f api.Flat, s api.Setting) api.Errno {
	if _, err := stamp.Of(f, nowhere, s, 0); err != api.ErrArg {
		return err
	}
	return api.OK
}

// stampsOf are the stamps of all devices of f, which is right, as s is; ErrSeg, if the segments aren't.
func stampsOf(f api.Flat, s api.Setting, segs []int) ([]api.Stamp, api.Errno) {
	bent := Bent(f)
	if len(segs) != len(bent) {
		return nil, api.ErrSeg
	}
	choice := make([]int, len(f.Devs))
	for i, k := range bent {
		choice[k] = segs[i]
	}
	var stamps []api.Stamp
	for k, seg := range choice {
		own, err := stamp.Of(f, k, s, seg)
		if err != api.OK {
			return nil, err
		}
		stamps = append(stamps, own...)
	}
	return stamps, api.OK
}

// unknowns are how many a right f has.
func unknowns(f api.Flat) int {
	count := len(f.Nodes) - 1
	for _, d := range f.Devs {
		switch d.Kind {
		case 'v', 'e', 'h', 'c', 'l', 't':
			count++
		}
	}
	return count
}

// An equation is a row in fractions: by the Kind of the stamps (there is none of 0) their sums, by column. Those of StampK
// are all in the column 0.
type equation [api.StampK + 1]map[int]api.Rat

func newEquation() equation {
	var e equation
	for kind := range e {
		e[kind] = map[int]api.Rat{}
	}
	return e
}

// equations are so many, with each of the stamps added where it belongs.
func equations(count int, stamps []api.Stamp) ([]equation, api.Errno) {
	var list []equation
	for range count {
		list = append(list, newEquation())
	}
	for _, x := range stamps {
		if err := list[x.Row].add(x); err != api.OK {
			return nil, err
		}
	}
	return list, api.OK
}

func (e equation) add(x api.Stamp) api.Errno {
	sums := e[x.Kind]
	was, there := sums[x.Col]
	if !there {
		sums[x.Col] = x.Val
		return api.OK
	}
	sum, err := rat.Add(was, x.Val)
	sums[x.Col] = sum
	return err
}

// inWholeNumbers is the system of the equations.
func inWholeNumbers(list []equation) (api.System, api.Errno) {
	var s api.System
	for _, e := range list {
		row, err := e.row()
		if err != api.OK {
			return api.System{}, err
		}
		s.Rows = append(s.Rows, row)
	}
	return s, api.OK
}

// row is the equation times the least number that makes it whole.
func (e equation) row() (api.Row, api.Errno) {
	mult, err := rat.Lcm(e.fractions())
	if err != api.OK {
		return api.Row{}, err
	}
	var parts [api.StampK + 1][]api.Cell
	for kind, sums := range e {
		if parts[kind], err = cells(sums, mult); err != api.OK {
			return api.Row{}, err
		}
	}
	row := api.Row{Mult: mult, A: parts[api.StampA], H: parts[api.StampH], S: parts[api.StampS]}
	for _, k := range parts[api.StampK] {
		row.K = k.Val
	}
	return row, api.OK
}

// fractions are all of the equation's, in no order.
func (e equation) fractions() []api.Rat {
	var list []api.Rat
	for _, sums := range e {
		for _, sum := range sums {
			list = append(list, sum)
		}
	}
	return list
}

// cells are the sums other than 0, times mult, which makes them whole.
func cells(sums map[int]api.Rat, mult api.Int) ([]api.Cell, api.Errno) {
	var list []api.Cell
	for _, col := range columns(sums) {
		val, err := rat.Whole(sums[col], mult)
		if err != api.OK {
			return nil, err
		}
		list = append(list, api.Cell{Col: col, Val: val})
	}
	return list, api.OK
}

// columns are those of sums other than 0, rising.
func columns(sums map[int]api.Rat) []int {
	var list []int
	for col, sum := range sums {
		if len(sum.Num.Limbs) > 0 {
			list = append(list, col)
		}
	}
	slices.Sort(list)
	return list
}
