package rat_test

import (
	"testing"

	"shunt/api"
	"shunt/limb"
	"shunt/rat"
)

// The chapter's table, row by row.

func TestExampleMake(t *testing.T) {
	r, err := rat.Make(limb.Of(6), limb.Of(-4))
	is(t, "Make(6, -4)", r, err, ratio(-3, 2))
	r, err = rat.Make(limb.Of(0), limb.Of(-5))
	is(t, "Make(0, -5)", r, err, ratio(0, 1))
	r, err = rat.Make(limb.Of(1), limb.Of(0))
	refused(t, "Make(1, 0)", r, err, api.ErrZero)
}

func TestExampleCheck(t *testing.T) {
	for _, r := range []api.Rat{ratio(2, 4), ratio(1, -2), ratio(0, 5)} {
		if err := rat.Check(r); err != api.ErrRat {
			t.Errorf("Check(%v): %d", r, err)
		}
	}
}

func TestExampleSums(t *testing.T) {
	r, err := rat.Add(ratio(1, 2), ratio(1, 3))
	is(t, "Add(1/2, 1/3)", r, err, ratio(5, 6))
	r, err = rat.Sub(ratio(1, 2), ratio(1, 2))
	is(t, "Sub(1/2, 1/2)", r, err, ratio(0, 1))
	r, err = rat.Mul(ratio(2, 3), ratio(3, 4))
	is(t, "Mul(2/3, 3/4)", r, err, ratio(1, 2))
	r, err = rat.Div(ratio(1, 2), ratio(-2, 1))
	is(t, "Div(1/2, -2/1)", r, err, ratio(-1, 4))
}

func TestExampleRound(t *testing.T) {
	for _, c := range []struct {
		r    api.Rat
		want int64
	}{
		{ratio(1, 2), 0}, {ratio(3, 2), 2}, {ratio(5, 2), 2}, {ratio(-1, 2), 0}, {ratio(-3, 2), -2},
		{ratio(2*api.MaxGrid+1, 2), api.MaxGrid},
	} {
		if n, err := rat.Round(c.r); n != c.want || err != api.OK {
			t.Errorf("Round(%v): %d, %d", c.r, n, err)
		}
	}
	if n, err := rat.Round(ratio(api.MaxGrid+1, 1)); n != 0 || err != api.ErrRange {
		t.Error("Round(10^18 + 1):", n, err)
	}
}

func TestExampleLcm(t *testing.T) {
	m, err := rat.Lcm([]api.Rat{ratio(1, 6), ratio(1, 4)})
	isInt(t, "Lcm(1/6, 1/4)", m, err, limb.Of(12))
	m, err = rat.Lcm(nil)
	isInt(t, "Lcm()", m, err, limb.Of(1))
}

func TestExampleWhole(t *testing.T) {
	n, err := rat.Whole(ratio(1, 6), limb.Of(12))
	isInt(t, "Whole(1/6, 12)", n, err, limb.Of(2))
	n, err = rat.Whole(ratio(1, 6), limb.Of(4))
	refusedInt(t, "Whole(1/6, 4)", n, err, api.ErrExact)
}
