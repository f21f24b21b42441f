package wave_test

import (
	"slices"
	"testing"

	"shunt/api"
	"shunt/limb"
	"shunt/rat"
	"shunt/wave"
)

// volt is one in thousand-millionths.
const volt = 1000000000

func n(mant int64, exp int) api.Num { return api.Num{Mant: mant, Exp: exp} }

func dc(v api.Num) api.Wave { return api.Wave{Kind: 1, Vals: []api.Num{v}} }

func pulse(low, high api.Num, delay, rise, width, fall, period int) api.Wave {
	return api.Wave{Kind: 2, Vals: []api.Num{low, high}, Steps: []int{delay, rise, width, fall, period}}
}

func pwl(vals []api.Num, steps ...int) api.Wave { return api.Wave{Kind: 3, Vals: vals, Steps: steps} }

func table(vals ...api.Num) api.Wave { return api.Wave{Kind: 4, Vals: vals} }

// volts are whole ones, none a multiple of ten but 0.
func volts(list ...int64) []api.Num {
	var vals []api.Num
	for _, v := range list {
		vals = append(vals, n(v, 0))
	}
	return vals
}

// dice is a row of numbers that is the same at every run.
type dice uint64

func (d *dice) next() uint64 {
	*d ^= *d << 13
	*d ^= *d >> 7
	*d ^= *d << 17
	return uint64(*d)
}

func (d *dice) below(n int) int { return int(d.next() >> 33 % uint64(n)) }

// upTo is 0 to most, the small and the great ones as often.
func (d *dice) upTo(most int) int {
	bound := 1
	for range d.below(10) {
		bound *= 10
	}
	switch d.below(8) {
	case 0:
		return 0
	case 1:
		return most
	}
	return d.below(min(bound, most) + 1)
}

// number is right and, for the most part, on the grid.
func (d *dice) number() api.Num {
	v := n(int64(d.below(999999999)), []int{-18, -11, -10, -9, -6, 0, 0, 1, 9}[d.below(9)])
	if d.below(2) == 0 {
		v.Mant %= 1000
	}
	if v.Mant%10 == 0 {
		v.Mant++
	}
	if d.below(2) == 0 {
		v.Mant = -v.Mant
	}
	return v
}

func (d *dice) numbers(count int) []api.Num {
	var vals []api.Num
	for range count {
		vals = append(vals, d.number())
	}
	return vals
}

func (d *dice) pulse() api.Wave {
	period := 1 + d.upTo(api.MaxStep-1)
	rise := d.upTo(period)
	width := d.upTo(period - rise)
	fall := d.upTo(period - rise - width)
	return pulse(d.number(), d.number(), d.upTo(api.MaxStep), rise, width, fall, period)
}

func (d *dice) pwl() api.Wave {
	var steps []int
	for range 1 + d.below(16) {
		steps = append(steps, d.upTo(api.MaxStep))
	}
	slices.Sort(steps)
	steps = slices.Compact(steps)
	return pwl(d.numbers(len(steps)), steps...)
}

// wave is right, and of any kind.
func (d *dice) wave() api.Wave {
	switch d.below(8) {
	case 0:
		return dc(d.number())
	case 1:
		return table(d.numbers(1 + d.below(16))...)
	case 2, 3, 4:
		return d.pwl()
	}
	return d.pulse()
}

// steps are such as the wave w may turn at, and those beside them, and any.
func (d *dice) steps(w api.Wave) []int {
	list := []int{0, 1, api.MaxStep - 1, api.MaxStep}
	for range 6 {
		from := d.upTo(api.MaxStep)
		list = append(list, from)
		for range 5 {
			corner, ok := cornerAbove(w, from)
			if !ok {
				break
			}
			list = append(list, corner-1, corner, corner+1)
			from = corner
		}
	}
	return slices.DeleteFunc(list, func(step int) bool { return step > api.MaxStep })
}

// sure gives what a lower layer answers where it can't refuse.
func sure[T any](a T, err api.Errno) T {
	if err != api.OK {
		panic(err)
	}
	return a
}

func mul(a, b api.Int) api.Int { return sure(limb.Mul(a, b)) }
func add(a, b api.Int) api.Int { return sure(limb.Add(a, b)) }
func of(n int) api.Int         { return limb.Of(int64(n)) }

// inSmallest is v in units of ten to the power -18, in which all right numbers are whole.
func inSmallest(v api.Num) api.Int {
	a := limb.Of(v.Mant)
	for range v.Exp + 18 {
		a = mul(a, of(10))
	}
	return a
}

// mean is b for part of all, and a for the rest of it, on the grid.
func mean(a, b api.Num, part, all int) (int64, api.Errno) {
	sum := add(mul(inSmallest(a), of(all-part)), mul(inSmallest(b), of(part)))
	return rat.Round(sure(rat.Make(sum, mul(of(all), of(volt)))))
}

// said is what the chapter's words say of a right wave at a step.
func said(w api.Wave, step int) (int64, api.Errno) {
	v, s := w.Vals, w.Steps
	switch w.Kind {
	case 1:
		return mean(v[0], v[0], 0, 1)
	case 2:
		return saidByPulse(v[0], v[1], s[0], s[1], s[2], s[3], s[4], step)
	case 3:
		for i := range len(s) - 1 {
			if s[i] <= step && step <= s[i+1] {
				return mean(v[i], v[i+1], step-s[i], s[i+1]-s[i])
			}
		}
		if step < s[0] {
			return mean(v[0], v[0], 0, 1)
		}
		return mean(v[len(v)-1], v[len(v)-1], 0, 1)
	}
	return mean(v[step%len(v)], v[step%len(v)], 0, 1)
}

func saidByPulse(low, high api.Num, delay, rise, width, fall, period, step int) (int64, api.Errno) {
	t := (step - delay) % period
	switch {
	case step < delay, t >= rise+width+fall:
		return mean(low, low, 0, 1)
	case t >= rise+width:
		return mean(high, low, t-rise-width, fall)
	case t >= rise:
		return mean(high, high, 0, 1)
	}
	return mean(low, high, t, rise)
}

// corners are those of a right wave that may be the next one behind a step.
func corners(w api.Wave, step int) []int {
	switch w.Kind {
	case 2:
		s := w.Steps
		var list []int
		turn := max(0, (step-s[0])/s[4])
		for _, k := range []int{turn, turn + 1} {
			from := s[0] + k*s[4]
			list = append(list, from, from+s[1], from+s[1]+s[2], from+s[1]+s[2]+s[3])
		}
		return list
	case 3:
		return w.Steps
	case 4:
		return []int{step + 1}
	}
	return nil
}

func cornerAbove(w api.Wave, step int) (int, bool) {
	least, found := 0, false
	for _, c := range corners(w, step) {
		if step < c && c <= api.MaxStep && (!found || c < least) {
			least, found = c, true
		}
	}
	return least, found
}

func isCorner(w api.Wave, step int) bool {
	next, ok := wave.Next(w, step-1)
	return ok && next == step
}

// says fails unless w says so many thousand-millionths.
func says(t *testing.T, w api.Wave, step int, want int64) {
	t.Helper()
	if v, err := wave.At(w, step); v != want || err != api.OK {
		t.Errorf("At(%v, %d): %d with error %d, not %d", w, step, v, err, want)
	}
}

// silent fails unless w says nothing, for that error.
func silent(t *testing.T, w api.Wave, step int, want api.Errno) {
	t.Helper()
	if v, err := wave.At(w, step); v != 0 || err != want {
		t.Errorf("At(%v, %d): %d with error %d, not nothing with error %d", w, step, v, err, want)
	}
}

// turns fails unless the least corner above the step is want.
func turns(t *testing.T, w api.Wave, step, want int) {
	t.Helper()
	if c, ok := wave.Next(w, step); c != want || !ok {
		t.Errorf("Next(%v, %d): %d, %v, not %d", w, step, c, ok, want)
	}
}

// straight fails unless there is no corner above the step.
func straight(t *testing.T, w api.Wave, step int) {
	t.Helper()
	if c, ok := wave.Next(w, step); c != 0 || ok {
		t.Errorf("Next(%v, %d): %d, %v, not 0, false", w, step, c, ok)
	}
}

// right fails unless w is.
func right(t *testing.T, w api.Wave) {
	t.Helper()
	if !wave.Valid(w) {
		t.Errorf("Valid(%v): false", w)
	}
	if _, err := wave.At(w, 0); err == api.ErrWave {
		t.Errorf("At(%v, 0): error %d", w, err)
	}
}

// wrong fails unless each call refuses w.
func wrong(t *testing.T, w api.Wave) {
	t.Helper()
	if wave.Valid(w) {
		t.Errorf("Valid(%v): true", w)
	}
	for _, step := range []int{0, 1, 3, api.MaxStep, -1, api.MaxStep + 1} {
		silent(t, w, step, api.ErrWave)
		straight(t, w, step)
	}
}

// asSaid fails unless At and Next answer of a right wave as the chapter's words say.
func asSaid(t *testing.T, w api.Wave, step int) {
	t.Helper()
	if v, err := said(w, step); err == api.OK {
		says(t, w, step, v)
	} else {
		silent(t, w, step, api.ErrRange)
	}
	if c, ok := cornerAbove(w, step); ok {
		turns(t, w, step, c)
	} else {
		straight(t, w, step)
	}
}
