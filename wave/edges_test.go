package wave_test

import (
	"testing"

	"shunt/api"
	"shunt/wave"
)

func TestDC(t *testing.T) {
	for _, v := range []api.Num{n(0, 0), n(5, 0), n(-5, 0), n(1, -18), n(-33, -1), n(1, 9), n(-1, 9), n(999999999, 0), n(123456789, -9)} {
		for _, step := range []int{0, 1, 2, 17, api.MaxStep - 1, api.MaxStep} {
			asSaid(t, dc(v), step)
			straight(t, dc(v), step)
		}
	}
	says(t, dc(n(-33, -1)), api.MaxStep, -3300000000)
	says(t, dc(n(123456789, -9)), 0, 123456789)
}

// What comes of rounding is the nearest, of two the even one.
func TestHalves(t *testing.T) {
	for _, c := range []struct {
		v    api.Num
		want int64
	}{
		{n(5, -10), 0}, {n(15, -10), 2}, {n(25, -10), 2}, {n(35, -10), 4}, {n(-5, -10), 0}, {n(-15, -10), -2}, {n(-25, -10), -2},
		{n(-35, -10), -4}, {n(500000001, -18), 1}, {n(499999999, -18), 0}, {n(-500000001, -18), -1}, {n(-499999999, -18), 0}, {n(1, -18), 0},
		{n(149999999, -17), 1}, {n(150000001, -17), 2}, {n(249999999, -17), 2}, {n(250000001, -17), 3},
	} {
		says(t, dc(c.v), 9, c.want)
		says(t, table(n(1, 0), c.v), 9, c.want)
		says(t, pulse(c.v, n(1, 0), 3, 0, 1, 0, 2), 2, c.want)
		says(t, pulse(n(1, 0), c.v, 3, 0, 1, 0, 2), 5, c.want)
		says(t, pwl([]api.Num{n(1, 0), c.v}, 3, 4), 4, c.want)
	}
}

// On the way the value is exact and rounded once, not its parts.
func TestHalvesOnTheWay(t *testing.T) {
	unit := func(k int64) api.Num {
		if k == 0 {
			return n(0, 0)
		}
		return n(k, -9)
	}
	for low := int64(-9); low < 9; low++ {
		for high := int64(-9); high < 9; high++ {
			middle := low + high // twice it
			want := middle / 2
			if middle%2 != 0 {
				want = (middle + 1) / 4 * 2
				if middle < 0 {
					want = (middle - 1) / 4 * 2
				}
			}
			says(t, pulse(unit(low), unit(high), 0, 2, 0, 0, 2), 1, want)
			says(t, pulse(unit(low), unit(high), 0, 0, 0, 2, 2), 1, want)
			says(t, pwl([]api.Num{unit(low), unit(high)}, 4, 6), 5, want)
			says(t, pwl([]api.Num{unit(low), unit(high)}, 0, api.MaxStep), api.MaxStep/2, want)
		}
	}
	// The ends are 0.4 and 2.6, each rounded 0 and 3; the way's quarter is 0.95, its half 1.5, its three quarters 2.05.
	w := pwl([]api.Num{n(4, -10), n(26, -10)}, 0, 4)
	for step, want := range []int64{0, 1, 2, 2, 3} {
		says(t, w, step, want)
	}
}

func TestPulseWithoutAPart(t *testing.T) {
	for _, c := range []struct {
		steps [5]int
		want  []int64 // in quarters of a volt
	}{
		{[5]int{0, 0, 2, 2, 5}, []int64{8, 8, 8, 6, 4, 8, 8, 8, 6, 4}},
		{[5]int{0, 2, 0, 2, 5}, []int64{4, 6, 8, 6, 4, 4, 6, 8, 6, 4}},
		{[5]int{0, 2, 2, 0, 5}, []int64{4, 6, 8, 8, 4, 4, 6, 8, 8, 4}},
		{[5]int{0, 0, 2, 0, 3}, []int64{8, 8, 4, 8, 8, 4, 8, 8, 4, 8}},
		{[5]int{0, 2, 0, 0, 3}, []int64{4, 6, 4, 4, 6, 4, 4, 6, 4, 4}},
		{[5]int{0, 0, 0, 2, 3}, []int64{8, 6, 4, 8, 6, 4, 8, 6, 4, 8}},
		{[5]int{0, 0, 0, 0, 3}, []int64{4, 4, 4, 4, 4, 4, 4, 4, 4, 4}},
		{[5]int{2, 0, 0, 0, 1}, []int64{4, 4, 4, 4, 4, 4, 4, 4, 4, 4}},
		{[5]int{2, 0, 1, 0, 1}, []int64{4, 4, 8, 8, 8, 8, 8, 8, 8, 8}},
		{[5]int{3, 1, 0, 0, 1}, []int64{4, 4, 4, 4, 4, 4, 4, 4, 4, 4}},
		{[5]int{3, 0, 0, 1, 1}, []int64{4, 4, 4, 8, 8, 8, 8, 8, 8, 8}},
		{[5]int{1, 2, 1, 2, 5}, []int64{4, 4, 6, 8, 8, 6, 4, 6, 8, 8}},
		{[5]int{1, 4, 0, 0, 4}, []int64{4, 4, 5, 6, 7, 4, 5, 6, 7, 4}},
	} {
		s := c.steps
		w := pulse(n(1, 0), n(2, 0), s[0], s[1], s[2], s[3], s[4])
		for step, want := range c.want {
			says(t, w, step, want*volt/4)
		}
	}
}

// Every pulse of small numbers, through its first periods.
func TestEverySmallPulse(t *testing.T) {
	for _, delay := range []int{0, 1, 2, 5} {
		for period := 1; period <= 6; period++ {
			for rise := range period + 1 {
				for width := range period - rise + 1 {
					for fall := range period - rise - width + 1 {
						up := pulse(n(-1, 0), n(2, 0), delay, rise, width, fall, period)
						down := pulse(n(7, -1), n(3, -1), delay, rise, width, fall, period)
						for step := range delay + 3*period + 2 {
							asSaid(t, up, step)
							asSaid(t, down, step)
						}
					}
				}
			}
		}
	}
}

// All corners of a small pulse, found one by one, are those that the chapter lists.
func TestCornersOfAPulse(t *testing.T) {
	for code := range 3 * 3 * 3 * 4 {
		rise, width, fall, rest := code%3, code/3%3, code/9%3, code/27
		period := max(1, rise+width+fall+rest)
		w := pulse(n(0, 0), n(1, 0), 4, rise, width, fall, period)
		listed := map[int]bool{}
		for k := range 60 {
			from := 4 + k*period
			listed[from], listed[from+rise], listed[from+rise+width], listed[from+rise+width+fall] = true, true, true, true
		}
		for step := 1; step < 60; step++ {
			if isCorner(w, step) != listed[step] {
				t.Errorf("%v: is %d a corner? %v", w, step, !listed[step])
			}
		}
	}
}

// At each corner of great pulses, a step ahead of it and a step behind.
func TestBesideTheCornersOfAPulse(t *testing.T) {
	const most = api.MaxStep
	for _, s := range [][5]int{
		{2, 2, 1, 1, 6}, {100, 70, 30, 50, 200}, {100, 70, 30, 100, 200}, {0, 0, 99, 1, 100}, {5, 333333333, 1, 333333333, most},
		{0, most, 0, 0, most}, {0, 0, most, 0, most}, {0, 0, 0, most, most}, {1, 1, 1, 1, most}, {most, 1, 1, 1, 3}, {most - 1, 1, 1, 1, 3},
		{most - 2, 1, 0, 1, 2}, {most / 2, most / 2, 0, most / 2, most}, {0, 499999999, 1, 499999999, most - 1}, {3, 0, 1, 0, most - 4},
	} {
		for _, w := range []api.Wave{pulse(n(-3, 0), n(7, 1), s[0], s[1], s[2], s[3], s[4]), pulse(n(123456789, -9), n(1, -9), s[0], s[1], s[2], s[3], s[4])} {
			for _, turn := range []int{0, 1, 2, 7, (most-s[0])/s[4] - 1, (most - s[0]) / s[4]} {
				from := s[0] + turn*s[4]
				for _, c := range []int{from, from + s[1], from + s[1] + s[2], from + s[1] + s[2] + s[3], from + s[4]} {
					for step := max(0, c-2); step <= min(c+2, most); step++ {
						asSaid(t, w, step)
					}
				}
			}
		}
	}
}

// The greatest steps: no corner is told above api.MaxStep.
func TestTheLastStep(t *testing.T) {
	const most = api.MaxStep
	turns(t, pulse(n(0, 0), n(1, 0), most, 0, 0, 0, 1), 0, most)
	turns(t, pulse(n(0, 0), n(1, 0), most, 1, 1, 1, 3), most-1, most)
	straight(t, pulse(n(0, 0), n(1, 0), most, 1, 1, 1, 3), most)
	turns(t, pulse(n(0, 0), n(1, 0), most-1, 1, 1, 1, 3), most-1, most)
	straight(t, pulse(n(0, 0), n(1, 0), most-1, 2, 1, 1, 4), most-1)
	straight(t, pulse(n(0, 0), n(1, 0), 1, 0, 0, 0, most), 1)
	straight(t, pulse(n(0, 0), n(1, 0), 1, 0, 0, 0, most), most)
	turns(t, pulse(n(0, 0), n(1, 0), 0, 0, 0, 0, most), 0, most)
	turns(t, pulse(n(0, 0), n(1, 0), 0, 0, 0, 0, most), most-1, most)
	straight(t, pulse(n(0, 0), n(1, 0), 0, most-1, 0, 0, most), most)
	says(t, pulse(n(0, 0), n(1, 0), 0, most, 0, 0, most), most-1, volt-1)
	says(t, pulse(n(0, 0), n(1, 0), 0, most, 0, 0, most), most, 0)
	says(t, pulse(n(0, 0), n(1, 0), 0, 0, 0, most, most), most-1, 1)
	says(t, pulse(n(0, 0), n(1, 0), 0, 0, 0, most, most), most, volt)
	says(t, pulse(n(3, 0), n(1, 0), most, 0, 1, 0, 1), most-1, 3*volt)
	says(t, pulse(n(3, 0), n(1, 0), most, 0, 1, 0, 1), most, volt)
	turns(t, pwl(volts(1), most), most-1, most)
	turns(t, pwl(volts(1), most), 0, most)
	straight(t, pwl(volts(1), most), most)
	says(t, pwl(volts(0, 1), 0, most), most-1, volt-1)
	says(t, pwl(volts(0, 1), 0, most), most, volt)
	turns(t, table(volts(1, 2, 3)...), most-1, most)
	straight(t, table(volts(1, 2, 3)...), most)
	says(t, table(volts(1, 2, 3)...), most, 2*volt) // 10^9 is 1 modulo 3
}

func TestPoints(t *testing.T) {
	for _, at := range []int{0, 1, 7, api.MaxStep - 1, api.MaxStep} {
		w := pwl(volts(-3), at)
		for _, step := range []int{0, 1, 6, 7, 8, api.MaxStep - 2, api.MaxStep - 1, api.MaxStep} {
			asSaid(t, w, step)
			says(t, w, step, -3*volt)
		}
	}
	// Next to one another, so that no step lies between.
	next := pwl(volts(1, 5, -2, 3), 2, 3, 4, 6)
	for step, want := range []int64{10, 10, 10, 50, -20, 5, 30, 30, 30} {
		says(t, next, step, want*volt/10)
	}
	for step, want := range []int{2, 2, 3, 4, 6, 6} {
		turns(t, next, step, want)
	}
	straight(t, next, 6)
	straight(t, next, 7)
	// From the first step on.
	first := pwl(volts(4, 0), 0, 4)
	for step, want := range []int64{4, 3, 2, 1, 0, 0} {
		says(t, first, step, want*volt)
	}
	turns(t, first, 0, 4)
}

func TestSixteenPoints(t *testing.T) {
	var vals []api.Num
	var near, wide, last []int
	for i := range 16 {
		vals = append(vals, n(int64(i*i%7-3), 0))
		near = append(near, i)
		wide = append(wide, i*66666666)
		last = append(last, api.MaxStep-15+i)
	}
	for step := range 20 {
		asSaid(t, pwl(vals, near...), step)
		asSaid(t, pwl(vals, last...), step)
		asSaid(t, table(vals...), step)
		asSaid(t, pwl(vals, last...), api.MaxStep-step)
		asSaid(t, pwl(vals, near...), api.MaxStep-step)
		asSaid(t, table(vals...), api.MaxStep-step)
	}
	for i, v := range vals {
		says(t, pwl(vals, near...), i, v.Mant*volt)
		says(t, pwl(vals, wide...), wide[i], v.Mant*volt)
		says(t, pwl(vals, last...), last[i], v.Mant*volt)
		says(t, table(vals...), 16+i, v.Mant*volt)
		for step := max(0, wide[i]-2); step <= wide[i]+2; step++ {
			asSaid(t, pwl(vals, wide...), step)
		}
	}
}

func TestTables(t *testing.T) {
	for count := 1; count <= 16; count++ {
		var vals []api.Num
		for i := range count {
			vals = append(vals, n(int64(2*i-15), -1))
		}
		w := table(vals...)
		for step := range 3*count + 1 {
			says(t, w, step, vals[step%count].Mant*volt/10)
			turns(t, w, step, step+1)
		}
		asSaid(t, w, api.MaxStep)
		asSaid(t, w, api.MaxStep-1)
	}
}

// Random waves of all kinds, beside their corners and elsewhere.
func TestAsTheChapterSays(t *testing.T) {
	d := dice(1)
	for range 3000 {
		w := d.wave()
		if !wave.Valid(w) {
			t.Fatalf("Valid(%v): false", w)
		}
		for _, step := range d.steps(w) {
			asSaid(t, w, step)
		}
		if t.Failed() {
			return
		}
	}
}
