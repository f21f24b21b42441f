package pwl

import (
	"shunt/api"
	"shunt/limb"
	"shunt/rat"
	"shunt/stamp"
	"shunt/system"
)

func roundedUnknowns(x api.Solution) ([]int64, api.Errno) {
	var list []int64
	for _, a := range x.X {
		r, err := rounded(a, x.D)
		if err != api.OK {
			return nil, err
		}
		list = append(list, r)
	}
	return list, api.OK
}

// roundedCurrents are those of all devices, of arguments that Report doesn't refuse.
func roundedCurrents(f api.Flat, segs []int, x api.Solution, src []int64) ([]int64, api.Errno) {
	choice := make([]int, len(f.Devs))
	for i, k := range system.Bent(f) {
		choice[k] = segs[i]
	}
	var list []int64
	for k, seg := range choice {
		made, _ := stamp.Current(f, k, seg)
		r, err := roundedSum(made, x, src)
		if err != api.OK {
			return nil, err
		}
		list = append(list, r)
	}
	return list, api.OK
}

// roundedSum is the sum of the stamps, rounded once: all of it stands over one denominator, the stamps' times the solution's.
func roundedSum(stamps []api.Stamp, x api.Solution, src []int64) (int64, api.Errno) {
	var vals []api.Rat
	for _, s := range stamps {
		vals = append(vals, s.Val)
	}
	common, _ := rat.Lcm(vals)
	var total api.Int
	for _, s := range stamps {
		share, _ := rat.Whole(s.Val, common)
		total = sum(total, product(share, factor(s, x, src)))
	}
	return rounded(total, product(common, x.D))
}

// factor is what a stamp's Val is taken times, itself times D.
func factor(s api.Stamp, x api.Solution, src []int64) api.Int {
	switch s.Kind {
	case api.StampA:
		return x.X[s.Col]
	case api.StampS:
		return product(limb.Of(src[s.Col]), x.D)
	}
	return x.D
}
