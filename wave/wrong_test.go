package wave_test

import (
	"math"
	"slices"
	"testing"

	"shunt/api"
)

// rights are right waves, the shortest and the longest of each kind among them.
func rights() []api.Wave {
	var steps []int
	var vals []api.Num
	for i := range 16 {
		steps = append(steps, 3*i)
		vals = append(vals, n(int64(2*i+1), 0))
	}
	return []api.Wave{
		dc(n(5, 0)), dc(n(0, 0)), pulse(n(0, 0), n(5, 0), 1, 2, 1, 1, 8), pulse(n(1, 0), n(-1, 0), 0, 0, 0, 0, 1), pwl(volts(3), 0),
		pwl(volts(3), api.MaxStep), pwl(volts(0, 1), 1, 4), pwl(vals, steps...), table(n(7, 0)), table(volts(3, 1, 2)...), table(vals...),
	}
}

func TestRights(t *testing.T) {
	for _, w := range rights() {
		right(t, w)
		w.Vals, w.Steps = slices.Clone(w.Vals), append([]int{}, w.Steps...) // a list without elements may be empty
		right(t, w)
	}
}

func TestNoKindOfTheFour(t *testing.T) {
	for _, kind := range []int{0, 5, -1, -2, 6, 8, 1 << 32, 1<<32 + 1, 1<<8 + 1, math.MaxInt, math.MinInt} {
		for _, w := range rights() {
			w.Kind = kind
			wrong(t, w)
		}
		wrong(t, api.Wave{Kind: kind})
	}
	wrong(t, api.Wave{})
}

// A wave of each kind with any counts of Vals and Steps: right where the chapter says so.
func TestCounts(t *testing.T) {
	counts := []int{0, 1, 2, 3, 4, 5, 6, 7, 15, 16, 17, 32, 1000}
	for kind := 1; kind <= 4; kind++ {
		for _, vals := range counts {
			for _, steps := range counts {
				w := api.Wave{Kind: kind}
				for i := range vals {
					w.Vals = append(w.Vals, n(int64(1+i%9), 0))
				}
				for i := range steps {
					w.Steps = append(w.Steps, []int{0, 1, 2, 3, 9}[i%5]+10*(i/5))
				}
				ok := map[int]bool{
					1: vals == 1 && steps == 0,
					2: vals == 2 && steps == 5,
					3: vals == steps && 1 <= vals && vals <= 16,
					4: 1 <= vals && vals <= 16 && steps == 0,
				}[kind]
				if ok {
					right(t, w)
				} else {
					wrong(t, w)
				}
			}
		}
	}
}

// Each of the Vals instead of a right one.
func TestNumbersThatArentRight(t *testing.T) {
	for _, bad := range []api.Num{
		n(10, 0), n(-10, 0), n(0, 1), n(0, -1), n(1000000000, 0), n(1000000001, 0), n(-1000000001, 0), n(1, 10), n(1, -19), n(5, math.MaxInt),
		n(5, math.MinInt), n(math.MaxInt64, 0), n(math.MinInt64, 0), n(1<<32+1, 0),
	} {
		for _, w := range rights() {
			for i := range w.Vals {
				other := w
				other.Vals = slices.Clone(w.Vals)
				other.Vals[i] = bad
				wrong(t, other)
			}
		}
	}
}

// Each of the Steps instead of one from 0 to api.MaxStep.
func TestStepsThatArentSteps(t *testing.T) {
	for _, bad := range []int{-1, -2, api.MaxStep + 1, -api.MaxStep, 1 << 32, -1 << 32, 1<<32 + 1, math.MaxInt, math.MinInt, math.MaxInt - 1, math.MinInt + 1} {
		for _, w := range rights() {
			for i := range w.Steps {
				other := w
				other.Steps = slices.Clone(w.Steps)
				other.Steps[i] = bad
				wrong(t, other)
			}
		}
	}
	wrong(t, pulse(n(0, 0), n(1, 0), 0, math.MaxInt, math.MaxInt, math.MaxInt, math.MaxInt))
	wrong(t, pulse(n(0, 0), n(1, 0), 0, math.MaxInt, math.MaxInt, 3, 9)) // the sum wraps round to 1
	wrong(t, pulse(n(0, 0), n(1, 0), 0, -5, 1, 1, 1))
	wrong(t, pwl(volts(1, 2), -2, -1))
	wrong(t, pwl(volts(1, 2), api.MaxStep+1, api.MaxStep+2))
}

func TestStepsThatDontRise(t *testing.T) {
	wrong(t, pwl(volts(1, 2), 1, 1))
	wrong(t, pwl(volts(1, 2), 2, 1))
	wrong(t, pwl(volts(1, 1), 1, 1))
	wrong(t, pwl(volts(1, 2), 0, 0))
	wrong(t, pwl(volts(1, 2), api.MaxStep, api.MaxStep))
	wrong(t, pwl(volts(1, 2), api.MaxStep, 0))
	long := rights()[7]
	for i := range 15 {
		for _, to := range []int{long.Steps[i], long.Steps[i] - 1, 0} {
			other := long
			other.Steps = slices.Clone(long.Steps)
			other.Steps[i+1] = to
			wrong(t, other)
		}
	}
	slices.Reverse(long.Steps)
	wrong(t, long)
}

func TestPeriods(t *testing.T) {
	const most = api.MaxStep
	low, high := n(0, 0), n(1, 0)
	for _, s := range [][4]int{{0, 0, 0, 0}, {1, 0, 0, 0}, {0, 0, 0, most}} {
		wrong(t, pulse(low, high, s[3], s[0], s[1], s[2], 0))
	}
	for _, s := range [][4]int{
		{1, 1, 1, 2}, {3, 0, 0, 2}, {0, 3, 0, 2}, {0, 0, 3, 2}, {2, 1, 0, 2}, {2, 0, 1, 2}, {0, 2, 1, 2}, {0, 1, 2, 2}, {most, 1, 0, most},
		{most, 0, 1, most}, {0, most, 1, most}, {1, most, 0, most}, {1, 0, most, most}, {0, 1, most, most}, {most, most, 0, most},
		{most, most, most, most}, {1, 0, most, most - 1}, {333333334, 333333333, 333333334, most}, {most, most, most, 1},
	} {
		wrong(t, pulse(low, high, 0, s[0], s[1], s[2], s[3]))
		wrong(t, pulse(low, high, most, s[0], s[1], s[2], s[3]))
	}
	for _, s := range [][4]int{
		{0, 0, 0, 1}, {1, 0, 0, 1}, {0, 1, 0, 1}, {0, 0, 1, 1}, {1, 1, 1, 3}, {most, 0, 0, most}, {0, most, 0, most}, {0, 0, most, most},
		{333333334, 333333333, 333333333, most}, {1, most - 2, 1, most}, {0, 0, 0, most},
	} {
		right(t, pulse(low, high, 0, s[0], s[1], s[2], s[3]))
		right(t, pulse(low, high, most, s[0], s[1], s[2], s[3]))
	}
}

// All small pulses: right just where rise, width and fall fit the period.
func TestSmallPeriods(t *testing.T) {
	for code := range 6 * 6 * 6 * 6 {
		rise, width, fall, period := code%6, code/6%6, code/36%6, code/216
		w := pulse(n(0, 0), n(1, 0), 3, rise, width, fall, period)
		if period > 0 && rise+width+fall <= period {
			right(t, w)
		} else {
			wrong(t, w)
		}
	}
}

func TestNoStep(t *testing.T) {
	for _, w := range rights() {
		for _, step := range []int{-1, -2, api.MaxStep + 1, api.MaxStep + 2, -api.MaxStep, 1 << 32, 1<<32 + 1, -1 << 32, math.MaxInt, math.MinInt} {
			silent(t, w, step, api.ErrRange)
			straight(t, w, step)
		}
	}
}

// A wave that isn't right is refused as such ahead of all else.
func TestWrongAheadOfRange(t *testing.T) {
	far := n(11, 8)
	for _, w := range []api.Wave{
		{Kind: 0, Vals: []api.Num{far}}, {Kind: 1, Vals: []api.Num{far, far}}, {Kind: 1, Vals: []api.Num{far}, Steps: []int{0}},
		pulse(far, far, 0, 1, 1, 1, 2), pwl([]api.Num{far, far}, 1, 1), table(far, n(10, 0)),
	} {
		wrong(t, w)
	}
}

func TestOffTheGrid(t *testing.T) {
	most := n(1, 9)
	for _, v := range []int64{1, -1} {
		says(t, dc(n(v, 9)), 3, v*api.MaxGrid)
		says(t, dc(n(v*999999999, 0)), 3, v*999999999*volt)
		for _, off := range []api.Num{n(11*v, 8), n(v*100000001, 1), n(v*2, 9), n(v*999999999, 9)} {
			silent(t, dc(off), 0, api.ErrRange)
			silent(t, dc(off), api.MaxStep, api.ErrRange)
		}
	}
	w := table(most, n(11, 8), n(-1, 9), n(-11, 8))
	says(t, w, 4, api.MaxGrid)
	silent(t, w, 5, api.ErrRange)
	says(t, w, 6, -api.MaxGrid)
	silent(t, w, 7, api.ErrRange)
	p := pulse(n(9, 8), n(11, 8), 0, 2, 1, 1, 4)
	says(t, p, 0, 9*api.MaxGrid/10)
	says(t, p, 1, api.MaxGrid)
	silent(t, p, 2, api.ErrRange)
	silent(t, p, 3, api.ErrRange)
	says(t, p, 4, 9*api.MaxGrid/10)
	// Both points are off the grid, and the way between them goes over it.
	over := pwl([]api.Num{n(-999999999, 9), n(999999999, 9)}, 10, 20)
	for step := range 30 {
		if step == 15 {
			says(t, over, step, 0)
		} else {
			silent(t, over, step, api.ErrRange)
		}
	}
}

// The grid's bound and a half more is rounded to the bound, which is even; all that is more is refused.
func TestJustBeyondTheGrid(t *testing.T) {
	for _, sign := range []int64{1, -1} {
		for _, c := range []struct {
			twice api.Num // what the middle is beyond the bound
			on    bool
		}{
			{n(0, 0), true}, {n(sign, -18), true}, {n(9*sign, -10), true}, {n(999999999*sign, -18), true}, {n(sign, -9), true},
			{n(100000001*sign, -17), false}, {n(11*sign, -10), false}, {n(2*sign, -9), false}, {n(3*sign, -9), false}, {n(-sign, -18), true},
		} {
			for _, w := range []api.Wave{
				pulse(c.twice, n(2*sign, 9), 0, 2, 0, 0, 2), pwl([]api.Num{n(2*sign, 9), c.twice}, 0, 2), pwl([]api.Num{c.twice, n(2*sign, 9)}, 0, 2),
			} {
				if c.on {
					says(t, w, 1, sign*api.MaxGrid)
				} else {
					silent(t, w, 1, api.ErrRange)
				}
			}
		}
	}
}
