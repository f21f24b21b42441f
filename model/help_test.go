package model_test

import (
	"slices"
	"testing"

	"shunt/api"
	"shunt/limb"
	"shunt/model"
	"shunt/num"
	"shunt/rat"
)

func n(mant int64, exp int) api.Num { return api.Num{Mant: mant, Exp: exp} }

func list(l ...api.Num) []api.Num { return l }

func diode(g, v []api.Num) api.Model { return api.Model{Name: "dio", Kind: 'd', G: g, V: v} }

func toggle(off, on, v api.Num) api.Model {
	return api.Model{Name: "sw", Kind: 's', G: list(off, on), V: list(v)}
}

// The two models of the chapter's examples.

func exampleDiode() api.Model { return diode(list(n(1, -6), n(1, -1)), list(n(7, -1))) }

func exampleSwitch() api.Model { return toggle(n(1, -9), n(1, 0), n(25, -1)) }

// rights are right models: each kind, each count of segments, and numbers at their edges.
func rights() []api.Model {
	const most = 999999999
	return []api.Model{
		exampleDiode(), exampleSwitch(), diode(list(n(5, 0)), nil), diode(list(n(0, 0)), []api.Num{}), diode(list(n(-5, 0)), nil),
		diode(list(n(0, 0), n(0, 0)), list(n(0, 0))), diode(list(n(1, 0), n(2, 0), n(3, 0)), list(n(-1, 0), n(1, 0))),
		diode(list(n(1, -18), n(-1, -18), n(most, 9), n(-most, 9)), list(n(-most, 9), n(1, -18), n(most, 9))),
		diode(list(n(-3, 2), n(0, 0), n(7, -3), n(7, -3)), list(n(-2, -18), n(-1, -18), n(0, 0))),
		diode(list(n(1, -3), n(0, 0), n(1, -3), n(2, 0)), list(n(999, 0), n(1, 3), n(1001, 0))),
		toggle(n(0, 0), n(0, 0), n(0, 0)), toggle(n(-1, 0), n(most, 9), n(-most, 9)), toggle(n(1, 0), n(-2, -18), n(1, -18)),
		toggle(n(1, 0), n(1, -9), n(most, 9)),
	}
}

// dice is a row of numbers that is the same at every run.
type dice uint64

func (d *dice) next() uint64 {
	*d ^= *d << 13
	*d ^= *d >> 7
	*d ^= *d << 17
	return uint64(*d)
}

func (d *dice) below(n int) int { return int(d.next() >> 33 % uint64(n)) }

// number is right: 0, of few digits, or of many; the whole span of powers.
func (d *dice) number() api.Num {
	mant := int64(d.below(999999999))
	switch d.below(6) {
	case 0:
		return n(0, 0)
	case 1, 2:
		mant %= 100
	}
	if mant%10 == 0 {
		mant++
	}
	if d.below(2) == 0 {
		mant = -mant
	}
	return n(mant, []int{-18, -12, -9, -1, 0, 0, 1, 9}[d.below(8)])
}

// knots are so many right numbers, rising.
func (d *dice) knots(count int) []api.Num {
	var l []api.Num
	for len(l) < count {
		l = append(l, d.number())
		slices.SortFunc(l, order)
		l = slices.Compact(l)
	}
	return l
}

func (d *dice) diode() api.Model {
	count := 1 + d.below(api.MaxSegs)
	var g []api.Num
	for range count {
		g = append(g, d.number())
	}
	return diode(g, d.knots(count-1))
}

// model is right, and of any kind.
func (d *dice) model() api.Model {
	if d.below(4) == 0 {
		return toggle(d.number(), d.number(), d.number())
	}
	return d.diode()
}

// sure gives what a lower layer answers where it can't refuse.
func sure[T any](a T, err api.Errno) T {
	if err != api.OK {
		panic(err)
	}
	return a
}

func order(a, b api.Num) int { return sure(num.Cmp(a, b)) }

func times(a, b api.Int) api.Int { return sure(limb.Mul(a, b)) }

func ratio(a, b int64) api.Rat { return api.Rat{Num: limb.Of(a), Den: limb.Of(b)} }

func whole(a int64) api.Rat { return ratio(a, 1) }

// filled has so many limbs, all the same.
func filled(count int, x uint32) api.Int { return api.Int{Limbs: slices.Repeat([]uint32{x}, count)} }

func minus(a api.Int) api.Int { return api.Int{Neg: !a.Neg, Limbs: a.Limbs} }

func ten(exp int) api.Int {
	a := limb.Of(1)
	for range exp {
		a = times(a, limb.Of(10))
	}
	return a
}

// inSmallest is v in units of ten to the power -18, in which all right numbers are whole.
func inSmallest(v api.Num) api.Int { return times(limb.Of(v.Mant), ten(v.Exp+18)) }

// knotOf is v on the grid's scale, reckoned of whole numbers.
func knotOf(v api.Num) api.Rat { return sure(rat.Make(inSmallest(v), ten(9))) }

// place is -1, 0 or 1, as u is below, at or above the knot of v. The parts of u have at most 60 limbs.
func place(u api.Rat, v api.Num) int {
	return sure(limb.Cmp(times(u.Num, ten(9)), times(u.Den, inSmallest(v))))
}

// holders are the segments of a right model that u is in.
func holders(m api.Model, u api.Rat) []int {
	var l []int
	for k := range m.G {
		if (k == 0 || place(u, m.V[k-1]) >= 0) && (k == len(m.V) || place(u, m.V[k]) <= 0) {
			l = append(l, k)
		}
	}
	return l
}

// sideOf is what the chapter's words say of u and the segment k of a right model.
func sideOf(m api.Model, k int, u api.Rat) int {
	switch at := holders(m, u); {
	case slices.Contains(at, k):
		return 0
	case at[0] > k:
		return 1
	}
	return -1
}

// near are fractions at each knot of a right model, beside it by one unit and by parts of one, and elsewhere.
func near(m api.Model) []api.Rat {
	l := []api.Rat{
		whole(0), whole(1), whole(-1), ratio(1, 3), ratio(-1, 3), whole(1 << 62), whole(-1 << 62),
		{Num: filled(60, 0xffffffff), Den: limb.Of(1)}, {Num: minus(filled(60, 0xffffffff)), Den: limb.Of(1)},
	}
	for _, v := range m.V {
		at := knotOf(v)
		for _, by := range []api.Rat{
			whole(0), whole(1), ratio(1, 2), ratio(1, 1000000000), ratio(1, 1000000007), {Num: limb.Of(1), Den: filled(40, 0xffffffff)},
		} {
			l = append(l, sure(rat.Add(at, by)), sure(rat.Sub(at, by)))
		}
	}
	return l
}

func oneInt(a, b api.Int) bool { return a.Neg == b.Neg && slices.Equal(a.Limbs, b.Limbs) }
func one(a, b api.Rat) bool    { return oneInt(a.Num, b.Num) && oneInt(a.Den, b.Den) }

func zero(a api.Rat) bool {
	return !a.Num.Neg && !a.Den.Neg && len(a.Num.Limbs) == 0 && len(a.Den.Limbs) == 0
}

// does fails unless m has that g and c in the segment k.
func does(t *testing.T, m api.Model, k int, g, c api.Rat) {
	t.Helper()
	a, b, err := model.Part(m, k)
	if !one(a, g) || !one(b, c) || err != api.OK {
		t.Errorf("Part(%v, %d): %v, %v with error %d, not %v, %v", m, k, a, b, err, g, c)
	}
}

// lies fails unless u lies on that side of the segment k.
func lies(t *testing.T, m api.Model, k int, u api.Rat, want int) {
	t.Helper()
	if s, err := model.Side(m, k, u); s != want || err != api.OK {
		t.Errorf("Side(%v, %d, %v): %d with error %d, not %d", m, k, u, s, err, want)
	}
}

// finds fails unless k is the least segment that holds u.
func finds(t *testing.T, m api.Model, u api.Rat, k int) {
	t.Helper()
	if found, err := model.Find(m, u); found != k || err != api.OK {
		t.Errorf("Find(%v, %v): %d with error %d, not %d", m, u, found, err, k)
	}
}

// partless fails unless Part answers that error.
func partless(t *testing.T, m api.Model, k int, want api.Errno) {
	t.Helper()
	if g, c, err := model.Part(m, k); !zero(g) || !zero(c) || err != want {
		t.Errorf("Part(%v, %d): %v, %v with error %d, not nothing with error %d", m, k, g, c, err, want)
	}
}

// sideless fails unless Side answers that error.
func sideless(t *testing.T, m api.Model, k int, u api.Rat, want api.Errno) {
	t.Helper()
	if s, err := model.Side(m, k, u); s != 0 || err != want {
		t.Errorf("Side(%v, %d, %v): %d with error %d, not 0 with error %d", m, k, u, s, err, want)
	}
}

// lost fails unless Find answers that error.
func lost(t *testing.T, m api.Model, u api.Rat, want api.Errno) {
	t.Helper()
	if k, err := model.Find(m, u); k != 0 || err != want {
		t.Errorf("Find(%v, %v): %d with error %d, not 0 with error %d", m, u, k, err, want)
	}
}

// right fails unless m is, with a segment for each G.
func right(t *testing.T, m api.Model) {
	t.Helper()
	if !model.Valid(m) || model.Count(m) != len(m.G) {
		t.Errorf("Valid(%v): %v, Count: %d", m, model.Valid(m), model.Count(m))
	}
}

// wrong fails unless each call refuses m, ahead of all else.
func wrong(t *testing.T, m api.Model) {
	t.Helper()
	if model.Valid(m) || model.Count(m) != 0 {
		t.Errorf("Valid(%v): %v, Count: %d", m, model.Valid(m), model.Count(m))
	}
	fractions := []api.Rat{whole(0), whole(700000000), ratio(2, 4), {Num: api.Int{Neg: true}, Den: limb.Of(1)}}
	for _, k := range []int{0, 1, -1, len(m.G)} {
		partless(t, m, k, api.ErrModel)
		for _, u := range fractions {
			sideless(t, m, k, u, api.ErrModel)
		}
	}
	for _, u := range fractions {
		lost(t, m, u, api.ErrModel)
	}
}
