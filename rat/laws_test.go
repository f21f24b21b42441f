package rat_test

import (
	"slices"
	"testing"

	"shunt/api"
	"shunt/limb"
	"shunt/rat"
)

const rounds = 300

// pairs are kinds of two fractions, each of right parts; what their sums pass through is often far longer.
func pairs(d *dice) map[string]func() (api.Rat, api.Rat) {
	return map[string]func() (api.Rat, api.Rat){
		"little": func() (api.Rat, api.Rat) { return d.little(), d.little() },
		"few":    func() (api.Rat, api.Rat) { return d.fraction(2, 1), d.fraction(1, 2) },
		"any":    func() (api.Rat, api.Rat) { return d.fraction(72, 72), d.fraction(72, 72) },
		"within": func() (api.Rat, api.Rat) { return d.fraction(35, 36), d.fraction(35, 36) },
		"shared": d.shared,
		"taken":  d.taken,
		"close":  d.close,
	}
}

// little is a fraction of one digit or two: many of these have the same whole part.
func (d *dice) little() api.Rat {
	return over(limb.Of(int64(d.below(61)-30)), limb.Of(int64(1+d.below(20))))
}

// shared are two whose denominators have a factor in common.
func (d *dice) shared() (api.Rat, api.Rat) {
	n := d.count(71)
	w := d.above(n)
	u, v := d.above(d.count(72-n)), d.above(d.count(72-n))
	return over(d.either(d.count(72)), sure(limb.Mul(u, w))), over(d.either(d.count(72)), sure(limb.Mul(v, w)))
}

// taken are two whose denominators have a factor w in common by which their sum is reduced: the one's is u w, with u one
// above a multiple of w; the other's is v w, and its numerator makes up for the first's, times v, modulo w.
func (d *dice) taken() (api.Rat, api.Rat) {
	n := d.count(35)
	w := d.above(n)
	u := sure(limb.Add(sure(limb.Mul(w, d.above(d.count(36-n)))), limb.Of(1)))
	v := d.above(d.count(36))
	first := d.either(d.count(72))
	_, rest, _ := limb.QuoRem(first, w)
	_, rest, _ = limb.QuoRem(sure(limb.Mul(rest, v)), w)
	second := sure(limb.Sub(sure(limb.Mul(w, d.either(d.count(36)))), rest))
	return over(first, sure(limb.Mul(u, w))), over(second, sure(limb.Mul(v, w)))
}

// close are two far from 0 that are nearly each other's opposites.
func (d *dice) close() (api.Rat, api.Rat) {
	u, v, k := d.above(d.count(36)), d.above(d.count(36)), d.either(d.count(36))
	first := sure(limb.Add(sure(limb.Mul(u, k)), d.either(d.count(36))))
	second := sure(limb.Sub(d.either(d.count(36)), sure(limb.Mul(v, k))))
	return over(first, u), over(second, v)
}

func TestReckonedApart(t *testing.T) {
	d := dice(1)
	makers := pairs(&d)
	for _, kind := range []string{"little", "few", "any", "within", "shared", "taken", "close"} {
		for range rounds {
			a, b := makers[kind]()
			if !right(a) || !right(b) {
				t.Fatalf("%s: %v, %v aren't right", kind, a, b)
			}
			holdAll(t, kind, a, b)
		}
	}
}

// holdAll holds every call of two against what tall numbers say.
func holdAll(t *testing.T, kind string, a, b api.Rat) {
	t.Helper()
	na, da, nb, db := tallOf(a.Num), tallOf(a.Den), tallOf(b.Num), tallOf(b.Den)
	r, err := rat.Add(a, b)
	holds(t, kind+": Add", r, err, na.times(db).plus(nb.times(da)), da.times(db))
	r, err = rat.Sub(a, b)
	difference := na.times(db).minus(nb.times(da))
	holds(t, kind+": Sub", r, err, difference, da.times(db))
	r, err = rat.Mul(a, b)
	holds(t, kind+": Mul", r, err, na.times(nb), da.times(db))
	if nb.sign() != 0 {
		r, err = rat.Div(a, b)
		holds(t, kind+": Div", r, err, na.times(db), da.times(nb))
	}
	if c, err := rat.Cmp(a, b); c != difference.sign() || err != api.OK {
		t.Fatalf("%s: Cmp(%v, %v): %d, %d", kind, a, b, c, err)
	}
}

// All of a field's laws, where what they speak of is within the limbs.
func TestField(t *testing.T) {
	d := dice(2)
	ok := must(t)
	for range rounds {
		a, b, c := d.fraction(12, 12), d.fraction(12, 12), d.fraction(12, 12)
		sum, product := ok(rat.Add(a, b)), ok(rat.Mul(a, b))
		if !one(sum, ok(rat.Add(b, a))) || !one(product, ok(rat.Mul(b, a))) {
			t.Fatalf("the order of %v and %v makes a difference", a, b)
		}
		if !one(ok(rat.Add(sum, c)), ok(rat.Add(a, ok(rat.Add(b, c))))) || !one(ok(rat.Mul(product, c)), ok(rat.Mul(a, ok(rat.Mul(b, c))))) {
			t.Fatalf("%v, %v, %v: which are taken first makes a difference", a, b, c)
		}
		if !one(ok(rat.Mul(sum, c)), ok(rat.Add(ok(rat.Mul(a, c)), ok(rat.Mul(b, c))))) {
			t.Fatalf("%v times the sum of %v and %v", c, a, b)
		}
		if !one(ok(rat.Sub(sum, b)), a) || !one(ok(rat.Sub(sum, a)), b) {
			t.Fatalf("the sum of %v and %v isn't taken back", a, b)
		}
		if len(b.Num.Limbs) > 0 && !one(ok(rat.Div(product, b)), a) {
			t.Fatalf("the product of %v and %v isn't taken back", a, b)
		}
	}
}

func TestMakeOfRightFractions(t *testing.T) {
	d := dice(3)
	list := rights()
	for range rounds {
		list = append(list, d.fraction(72, 72))
	}
	for _, r := range list {
		again, err := rat.Make(r.Num, r.Den)
		is(t, "Make of right parts", again, err, r)
	}
}

func TestMakeOfMultiples(t *testing.T) {
	d := dice(4)
	for range rounds {
		by := d.either(d.count(71))
		free := 72 - len(by.Limbs)
		r := d.fraction(free, free)
		again, err := rat.Make(sure(limb.Mul(r.Num, by)), sure(limb.Mul(r.Den, by)))
		is(t, "Make of multiples", again, err, r)
	}
}

func TestMakeReckonedApart(t *testing.T) {
	d := dice(5)
	for range rounds {
		num, den := d.either(d.count(72)), d.either(d.count(72))
		r, err := rat.Make(num, den)
		holds(t, "Make", r, err, tallOf(num), tallOf(den))
	}
}

// gridFraction is on the grid or not far beyond it, and often near a half.
func (d *dice) gridFraction() api.Rat {
	den := d.above(d.count(20))
	around := limb.Of(int64(d.next()) >> d.below(63))
	twice := sure(limb.Mul(sure(limb.Add(sure(limb.Mul(around, limb.Of(2))), limb.Of(1))), den))
	return over(sure(limb.Add(twice, limb.Of(int64(d.below(7)-3)))), sure(limb.Mul(den, limb.Of(2))))
}

// rounded fails unless Round answers as it should; it says whether there is an answer, and which.
func rounded(t *testing.T, r api.Rat) (int64, bool) {
	t.Helper()
	n, err := rat.Round(r)
	twice, den := tallOf(r.Num).times(small(2)), tallOf(r.Den)
	if err == api.ErrRange {
		if end := small(2*api.MaxGrid + 1).times(den); n != 0 || twice.size(end) <= 0 {
			t.Fatalf("Round(%v): %d, ErrRange", r, n)
		}
		return 0, false
	}
	if err != api.OK || n > api.MaxGrid || n < -api.MaxGrid {
		t.Fatalf("Round(%v): %d, %d", r, n, err)
	}
	off := twice.minus(small(n).times(den).times(small(2))).size(den)
	if off > 0 || off == 0 && n%2 != 0 {
		t.Fatalf("Round(%v): %d", r, n)
	}
	return n, true
}

func TestRounded(t *testing.T) {
	d := dice(6)
	for range 10 * rounds {
		rounded(t, d.gridFraction())
		rounded(t, d.fraction(72, 72))
		n := d.count(70)
		rounded(t, d.fraction(n+2, n))
	}
}

func TestRoundNeverFalls(t *testing.T) {
	d := dice(7)
	for range rounds {
		var list []api.Rat
		at := d.gridFraction()
		for range 8 {
			r, err := rat.Add(at, over(limb.Of(int64(d.below(400)-200)), limb.Of(100)))
			list = append(list, good(t, "Add", r, err))
		}
		slices.SortFunc(list, func(a, b api.Rat) int {
			c, _ := rat.Cmp(a, b)
			return c
		})
		var before []int64
		for _, r := range list {
			if n, on := rounded(t, r); on {
				before = append(before, n)
			}
		}
		if !slices.IsSorted(before) {
			t.Fatalf("Round falls: %v", before)
		}
	}
}

// The least: every denominator divides it, and what they leave has no divisor in common.
func TestLcmIsTheLeast(t *testing.T) {
	d := dice(8)
	for range rounds {
		var list []api.Rat
		for range 1 + d.below(6) {
			list = append(list, over(d.either(1), limb.Of(int64(1+d.below(1<<20)))), d.fraction(3, 2))
		}
		m, err := rat.Lcm(list)
		if err != api.OK || m.Neg {
			t.Fatalf("Lcm: %v, %d", m, err)
		}
		var left api.Int
		for _, r := range list {
			left = sure(limb.Gcd(left, sure(limb.Exact(m, r.Den))))
		}
		if !oneInt(left, limb.Of(1)) {
			t.Fatalf("Lcm of %v: %v", list, m)
		}
		for _, r := range list {
			n, err := rat.Whole(r, m)
			if err != api.OK || !tallOf(n).times(tallOf(r.Den)).same(tallOf(r.Num).times(tallOf(m))) {
				t.Fatalf("Whole(%v, %v): %v, %d", r, m, n, err)
			}
		}
	}
}

func TestLcmReckonedApart(t *testing.T) {
	d := dice(9)
	for range rounds {
		a, b := d.shared()
		m, err := rat.Lcm([]api.Rat{a, b})
		da, db := tallOf(a.Den), tallOf(b.Den)
		holds(t, "Lcm", lcmAsFraction(m, err), err, da.times(db), da.common(db))
	}
}

func lcmAsFraction(m api.Int, err api.Errno) api.Rat {
	if err != api.OK {
		return api.Rat{Num: m}
	}
	return whole(m)
}

func TestWholeReckonedApart(t *testing.T) {
	d := dice(10)
	for range rounds {
		r := d.fraction(72, 72)
		by := sure(limb.Mul(r.Den, limb.Of(int64(d.below(3)-1))))
		if free := 72 - len(r.Den.Limbs); free > 0 {
			by = sure(limb.Mul(r.Den, d.either(d.count(free))))
		}
		n, err := rat.Whole(r, by)
		product := tallOf(r.Num).times(tallOf(by))
		if err == api.ErrWide {
			if refusedInt(t, "Whole", n, err, api.ErrWide); !product.tooWide(tallOf(r.Den)) {
				t.Fatalf("Whole(%v, %v): ErrWide", r, by)
			}
		} else if err != api.OK || limb.Check(n) != api.OK || !tallOf(n).times(tallOf(r.Den)).same(product) {
			t.Fatalf("Whole(%v, %v): %v, %d", r, by, n, err)
		}
		if oneInt(r.Den, limb.Of(1)) {
			continue
		}
		// Less than Den away from its multiple: never whole.
		n, err = rat.Whole(r, sure(limb.Sub(by, limb.Of(int64(1-2*btoi(by.Neg))))))
		refusedInt(t, "Whole", n, err, api.ErrExact)
	}
}

func btoi(b bool) int {
	if b {
		return 1
	}
	return 0
}
