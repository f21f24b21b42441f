package sweep

import (
	"slices"

	"shunt/api"
	"shunt/flat"
	"shunt/plan"
	"shunt/pwl"
	"shunt/system"
)

// refusal is the error of what is handed in, but for the range's values.
func refusal(f api.Flat, o api.Options, q Range) api.Errno {
	if err := flat.Check(f); err != api.OK {
		return err
	}
	if err := pwl.Check(o); err != api.OK {
		return err
	}
	if !isSource(f, q.Dev) || q.Count < 1 || q.Count > api.MaxSweep {
		return api.ErrArg
	}
	return api.OK
}

func isSource(f api.Flat, place int) bool {
	if place < 0 || place >= len(f.Devs) {
		return false
	}
	return f.Devs[place].Kind == 'v' || f.Devs[place].Kind == 'i'
}

// asksOf are what each point asks: all sources are held at the step 0, but the one of the range.
func asksOf(f api.Flat, q Range) ([]plan.Ask, api.Errno) {
	values, err := valuesOf(q)
	if err != api.OK {
		return nil, err
	}
	held, err := system.Sources(f, 0)
	if err != api.OK {
		return nil, err
	}
	unknowns, _ := flat.Unknowns(f)
	rest := make([]int64, unknowns)
	var asks []plan.Ask
	for _, v := range values {
		src := slices.Clone(held)
		src[q.Dev] = v
		asks = append(asks, plan.Ask{Prev: rest, Src: src})
	}
	return asks, api.OK
}

// valuesOf are the range's values, from the first to the last.
func valuesOf(q Range) ([]int64, api.Errno) {
	var list []int64
	// A sum that passes an int64's one end comes back at the other, which is off the grid, too: the grid is much the smaller.
	for v := q.From; onGrid(v); v += q.By {
		if list = append(list, v); len(list) == q.Count {
			return list, api.OK
		}
	}
	return nil, api.ErrRange
}

func onGrid(v int64) bool { return -api.MaxGrid <= v && v <= api.MaxGrid }
