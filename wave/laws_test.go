package wave_test

import (
	"math"
	"slices"
	"testing"

	"shunt/api"
	"shunt/num"
	"shunt/wave"
)

// bounds are the least and the greatest of the Vals on the grid; those beyond it stand for all that is.
func bounds(w api.Wave) (least, greatest int64) {
	var list []int64
	for _, v := range w.Vals {
		g, err := num.Grid(v)
		switch {
		case err == api.OK:
			list = append(list, g)
		case v.Mant < 0:
			list = append(list, math.MinInt64)
		default:
			list = append(list, math.MaxInt64)
		}
	}
	return slices.Min(list), slices.Max(list)
}

// What is said lies between the least and the greatest of the Vals; so where these are on the grid, nothing is refused.
func TestBetween(t *testing.T) {
	d := dice(2)
	within, beyond := 0, 0
	for range 1500 {
		w := d.wave()
		least, greatest := bounds(w)
		onGrid := -api.MaxGrid <= least && greatest <= api.MaxGrid
		for _, step := range d.steps(w) {
			v, err := wave.At(w, step)
			if onGrid && err != api.OK || err == api.OK && (v < least || v > greatest) {
				t.Fatalf("At(%v, %d): %d with error %d, not between %d and %d", w, step, v, err, least, greatest)
			}
			switch {
			case onGrid:
				within++
			case err == api.OK:
				beyond++
			}
		}
	}
	if within < 10000 || beyond < 1000 {
		t.Error("too few steps were asked:", within, beyond)
	}
}

// bent tells by how much twice what is said at the step differs from what is said beside it; ok, if all is on the grid.
func bent(w api.Wave, step int) (int64, bool) {
	ahead, err1 := wave.At(w, step-1)
	here, err2 := wave.At(w, step)
	behind, err3 := wave.At(w, step+1)
	return (here - ahead) - (behind - here), err1 == api.OK && err2 == api.OK && err3 == api.OK
}

func TestStraight(t *testing.T) {
	d := dice(3)
	asked := 0
	for range 3000 {
		w := d.wave()
		for _, step := range d.steps(w) {
			if step == 0 || step == api.MaxStep || isCorner(w, step) || isCorner(w, step+1) {
				continue
			}
			by, ok := bent(w, step)
			if ok {
				asked++
			}
			if ok && (by < -2 || by > 2) {
				t.Fatalf("%v is bent at %d, by %d", w, step, by)
			}
		}
	}
	if asked < 10000 {
		t.Error("too few steps were asked:", asked)
	}
}

// Small waves, of which every step is asked.
func TestStraightAtEveryStep(t *testing.T) {
	d := dice(4)
	for range 200 {
		period := 1 + d.below(40)
		rise := d.below(period + 1)
		width := d.below(period - rise + 1)
		fall := d.below(period - rise - width + 1)
		small := pwl(d.numbers(5), 3, 4, 9, 10+d.below(20), 40)
		for _, w := range []api.Wave{dc(d.number()), small, pulse(d.number(), d.number(), d.below(9), rise, width, fall, period)} {
			for step := 1; step < 100; step++ {
				by, ok := bent(w, step)
				if ok && (by < -2 || by > 2) && !isCorner(w, step) && !isCorner(w, step+1) {
					t.Fatalf("%v is bent at %d, by %d, and there is no corner", w, step, by)
				}
			}
		}
	}
}

// same fails unless w says the same at both steps.
func same(t *testing.T, w api.Wave, step, later int) {
	t.Helper()
	v, err := wave.At(w, step)
	if u, e := wave.At(w, later); u != v || e != err {
		t.Fatalf("%v says %d with error %d at %d, but %d with error %d at %d", w, v, err, step, u, e, later)
	}
}

func TestAPulseSaysTheSameAgain(t *testing.T) {
	d := dice(5)
	asked := 0
	for range 1000 {
		w := d.pulse()
		delay, period := w.Steps[0], w.Steps[4]
		for _, step := range d.steps(w) {
			if delay <= step && step+period <= api.MaxStep {
				asked++
				same(t, w, step, step+period)
				same(t, w, step, step+(api.MaxStep-step)/period*period)
			}
		}
	}
	if asked < 10000 {
		t.Error("too few steps were asked:", asked)
	}
}

func TestATableSaysTheSameAgain(t *testing.T) {
	d := dice(6)
	for count := 1; count <= 16; count++ {
		w := table(d.numbers(count)...)
		for step := range 50 {
			same(t, w, step, step+count)
			same(t, w, api.MaxStep-step-count, api.MaxStep-step)
			same(t, w, step, step+(api.MaxStep-step)/count*count)
		}
	}
}
