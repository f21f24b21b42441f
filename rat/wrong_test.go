package rat_test

import (
	"slices"
	"testing"

	"shunt/api"
	"shunt/limb"
	"shunt/rat"
)

// wrongInts are whole numbers that aren't right, in each way there is.
func wrongInts() []api.Int {
	return []api.Int{
		{Neg: true}, {Limbs: []uint32{0}}, {Neg: true, Limbs: []uint32{0}}, {Limbs: []uint32{5, 0}}, {Neg: true, Limbs: []uint32{5, 0}},
		filled(73, 1), {Neg: true, Limbs: filled(73, 1).Limbs}, filled(73, 0), filled(1000, 7), filled(72, 0),
	}
}

// ofWrongInts are fractions with a whole number that isn't right, beside parts of every kind.
func ofWrongInts() []api.Rat {
	var list []api.Rat
	for _, w := range wrongInts() {
		for _, o := range []api.Int{{}, limb.Of(1), limb.Of(-4), most(), w} {
			list = append(list, api.Rat{Num: w, Den: o}, api.Rat{Num: o, Den: w})
		}
	}
	return list
}

// notLowest are fractions of right whole numbers that aren't right themselves.
func notLowest() []api.Rat {
	return []api.Rat{
		{}, ratio(1, 0), ratio(-1, 0), ratio(0, 5), ratio(0, -1), ratio(2, 4), ratio(-2, 4), ratio(3, 3), ratio(1, -2), ratio(-1, -2),
		ratio(1, -1), {Num: most(), Den: most()}, {Num: power(71), Den: power(3)}, {Num: limb.Of(3), Den: most()},
		{Num: limb.Of(1), Den: minus(most())}, {Num: most(), Den: api.Int{Limbs: []uint32{}}},
	}
}

// rights are right fractions at the edges.
func rights() []api.Rat {
	return []api.Rat{
		ratio(0, 1), {Num: api.Int{Limbs: []uint32{}}, Den: limb.Of(1)}, ratio(1, 1), ratio(-1, 1), ratio(1, 2), ratio(-3, 2), ratio(5, 7),
		whole(most()), whole(minus(most())), {Num: limb.Of(1), Den: most()}, {Num: limb.Of(-1), Den: most()},
		{Num: most(), Den: power(71)}, {Num: minus(power(71)), Den: most()}, {Num: power(71), Den: filled(71, 0xffffffff)},
	}
}

func TestCheck(t *testing.T) {
	for _, r := range ofWrongInts() {
		if err := rat.Check(r); err != api.ErrInt {
			t.Errorf("Check(%v): %d", r, err)
		}
	}
	for _, r := range notLowest() {
		if err := rat.Check(r); err != api.ErrRat {
			t.Errorf("Check(%v): %d", r, err)
		}
	}
	for _, r := range rights() {
		if err := rat.Check(r); err != api.OK {
			t.Errorf("Check(%v): %d", r, err)
		}
	}
}

// refuses fails unless every call of two fractions answers that error.
func refuses(t *testing.T, a, b api.Rat, want api.Errno) {
	t.Helper()
	for name, f := range pairCalls() {
		c, err := f(a, b)
		refused(t, name, c, err, want)
	}
	if c, err := rat.Cmp(a, b); c != 0 || err != want {
		t.Errorf("Cmp: %d, %d, not error %d", c, err, want)
	}
	m, err := rat.Lcm([]api.Rat{a, b})
	refusedInt(t, "Lcm", m, err, want)
}

// A whole number that isn't right is told ahead of everything else, wherever it stands; then a fraction that isn't.
func TestWrongFractions(t *testing.T) {
	wrong, low, fine := ofWrongInts(), notLowest(), rights()
	for _, w := range wrong {
		for _, o := range slices.Concat(wrong, low, fine) {
			refuses(t, w, o, api.ErrInt)
			refuses(t, o, w, api.ErrInt)
		}
	}
	for _, l := range low {
		for _, o := range slices.Concat(low, fine) {
			refuses(t, l, o, api.ErrRat)
			refuses(t, o, l, api.ErrRat)
		}
	}
}

func TestWrongMake(t *testing.T) {
	for _, w := range wrongInts() {
		for _, o := range append(wrongInts(), api.Int{}, limb.Of(1), limb.Of(-6), most()) {
			r, err := rat.Make(w, o)
			refused(t, "Make", r, err, api.ErrInt)
			r, err = rat.Make(o, w)
			refused(t, "Make", r, err, api.ErrInt)
		}
	}
	for _, n := range []api.Int{{}, limb.Of(1), limb.Of(-1), most(), minus(most())} {
		r, err := rat.Make(n, api.Int{})
		refused(t, "Make over 0", r, err, api.ErrZero)
		r, err = rat.Make(n, api.Int{Limbs: []uint32{}})
		refused(t, "Make over 0", r, err, api.ErrZero)
	}
}

func TestWrongRound(t *testing.T) {
	for _, w := range ofWrongInts() {
		if n, err := rat.Round(w); n != 0 || err != api.ErrInt {
			t.Errorf("Round(%v): %d, %d", w, n, err)
		}
	}
	for _, l := range notLowest() {
		if n, err := rat.Round(l); n != 0 || err != api.ErrRat {
			t.Errorf("Round(%v): %d, %d", l, n, err)
		}
	}
}

func TestWrongWhole(t *testing.T) {
	numbers := []api.Int{{}, limb.Of(1), limb.Of(-12), most()}
	for _, w := range ofWrongInts() {
		for _, by := range append(wrongInts(), numbers...) {
			n, err := rat.Whole(w, by)
			refusedInt(t, "Whole", n, err, api.ErrInt)
		}
	}
	for _, l := range notLowest() {
		for _, by := range wrongInts() {
			n, err := rat.Whole(l, by)
			refusedInt(t, "Whole", n, err, api.ErrInt)
		}
		for _, by := range numbers {
			n, err := rat.Whole(l, by)
			refusedInt(t, "Whole", n, err, api.ErrRat)
		}
	}
	for _, r := range rights() {
		for _, by := range wrongInts() {
			n, err := rat.Whole(r, by)
			refusedInt(t, "Whole", n, err, api.ErrInt)
		}
	}
}

// In a list, each one is asked, wherever it stands, ahead of what is too wide.
func TestWrongLists(t *testing.T) {
	wide := []api.Rat{{Num: limb.Of(1), Den: most()}, {Num: limb.Of(1), Den: power(71)}}
	m, err := rat.Lcm(wide)
	refusedInt(t, "Lcm of wide ones", m, err, api.ErrWide)
	for i := range len(wide) + 1 {
		m, err = rat.Lcm(slices.Insert(slices.Clone(wide), i, ratio(2, 4)))
		refusedInt(t, "Lcm with 2/4", m, err, api.ErrRat)
		m, err = rat.Lcm(slices.Insert(slices.Clone(wide), i, whole(filled(73, 1))))
		refusedInt(t, "Lcm with 73 limbs", m, err, api.ErrInt)
		m, err = rat.Lcm(slices.Insert(slices.Clone(wide), i, whole(filled(73, 1)), ratio(2, 4)))
		refusedInt(t, "Lcm with 73 limbs and 2/4", m, err, api.ErrInt)
		m, err = rat.Lcm(slices.Insert(slices.Clone(wide), i, ratio(2, 4), whole(filled(73, 1))))
		refusedInt(t, "Lcm with 2/4 and 73 limbs", m, err, api.ErrInt)
	}
}

func TestDivisionByZero(t *testing.T) {
	for _, a := range rights() {
		r, err := rat.Div(a, ratio(0, 1))
		refused(t, "Div by 0", r, err, api.ErrZero)
		r, err = rat.Div(a, api.Rat{Num: api.Int{Limbs: []uint32{}}, Den: limb.Of(1)})
		refused(t, "Div by 0", r, err, api.ErrZero)
	}
}
