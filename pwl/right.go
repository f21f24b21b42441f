package pwl

import (
	"slices"

	"shunt/api"
	"shunt/flat"
	"shunt/limb"
	"shunt/model"
	"shunt/plan"
	"shunt/system"
)

// refusal is what Step refuses a choice and an ask for, ahead of any solving.
func (s *Solver) refusal(segs []int, a plan.Ask) api.Errno {
	switch {
	case !rightChoice(s.circuit, segs):
		return api.ErrSeg
	case len(a.Prev) != s.unknowns || len(a.Src) != len(s.circuit.Devs):
		return api.ErrSize
	case !onGrid(a.Prev) || !onGrid(a.Src):
		return api.ErrRange
	}
	return api.OK
}

// unreportable is what Report refuses its arguments for, ahead of any rounding.
func unreportable(f api.Flat, segs []int, x api.Solution, src []int64) api.Errno {
	if err := flat.Check(f); err != api.OK {
		return err
	}
	unknowns, _ := flat.Unknowns(f)
	switch {
	case !rightChoice(f, segs):
		return api.ErrSeg
	case len(x.X) != unknowns || len(src) != len(f.Devs):
		return api.ErrSize
	case !rightSolution(x):
		return api.ErrInt
	case !onGrid(src):
		return api.ErrRange
	}
	return api.OK
}

// rightChoice says whether segs are as many as f's bent devices, and each is a segment of its device's model.
func rightChoice(f api.Flat, segs []int) bool {
	bent := system.Bent(f)
	if len(segs) != len(bent) {
		return false
	}
	for i, k := range bent {
		if segs[i] < 0 || segs[i] >= model.Count(f.Devs[k].Model) {
			return false
		}
	}
	return true
}

func rightSolution(x api.Solution) bool {
	if !isWhole(x.D) || x.D.Neg || len(x.D.Limbs) == 0 {
		return false
	}
	return !slices.ContainsFunc(x.X, func(a api.Int) bool { return !isWhole(a) })
}

func isWhole(a api.Int) bool { return limb.Check(a) == api.OK }

func onGrid(list []int64) bool {
	return !slices.ContainsFunc(list, func(x int64) bool { return x < -api.MaxGrid || x > api.MaxGrid })
}

// from1 says whether n is 1 to most.
func from1(n, most int) bool { return 1 <= n && n <= most }
