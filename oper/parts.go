package oper

import (
	"shunt/api"
	"shunt/flat"
	"shunt/limb"
	"shunt/plan"
	"shunt/pwl"
	"shunt/rat"
	"shunt/system"
)

// broughtUp is what is found of the last part, each solved from the choice that the one ahead found.
func broughtUp(f api.Flat, solver *pwl.Solver, src []int64, parts int) (pwl.Found, api.Errno) {
	unknowns, _ := flat.Unknowns(f)
	rest := make([]int64, unknowns)
	found := pwl.Found{Segs: make([]int, len(system.Bent(f)))}
	for k := 1; k <= parts; k++ {
		next, err := solver.Step(found.Segs, plan.Ask{Prev: rest, Src: shares(src, k, parts)})
		if err != api.OK {
			return pwl.Found{}, err
		}
		found = next
	}
	return found, api.OK
}

// shares are what the sources say in the part k of n.
func shares(src []int64, k, n int) []int64 {
	var list []int64
	for _, v := range src {
		list = append(list, share(v, k, n))
	}
	return list
}

// share is v times k over n, rounded; v is on the grid and k at most n, so that no call here refuses it. The product may be
// beyond an int64.
func share(v int64, k, n int) int64 {
	product, _ := limb.Mul(limb.Of(v), limb.Of(int64(k)))
	fraction, _ := rat.Make(product, limb.Of(int64(n)))
	rounded, _ := rat.Round(fraction)
	return rounded
}
