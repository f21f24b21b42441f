package limb_test

import (
	"math"
	"testing"

	"shunt/api"
	"shunt/limb"
)

// The chapter's table, row by row.

func TestExampleOf(t *testing.T) {
	is(t, "Of(0)", limb.Of(0), 0, pos())
	is(t, "Of(5)", limb.Of(5), 0, pos(5))
	is(t, "Of(-1)", limb.Of(-1), 0, neg(1))
	is(t, "Of(-2^63)", limb.Of(math.MinInt64), 0, neg(0, 2147483648))
}

func TestExampleCheck(t *testing.T) {
	for _, a := range []api.Int{pos(5, 0), neg(), filled(73, 1)} {
		if err := limb.Check(a); err != api.ErrInt {
			t.Errorf("Check(%v): %d", a, err)
		}
	}
}

func TestExampleSums(t *testing.T) {
	a, err := limb.Add(limb.Of(1<<32-1), limb.Of(1))
	is(t, "Add(2^32 - 1, 1)", a, err, pos(0, 1))
	a, err = limb.Sub(limb.Of(3), limb.Of(5))
	is(t, "Sub(3, 5)", a, err, neg(2))
	a, err = limb.Mul(limb.Of(1<<32-1), limb.Of(1<<32-1))
	is(t, "Mul(2^32 - 1, 2^32 - 1)", a, err, pos(1, 4294967294))
}

func TestExampleQuoRem(t *testing.T) {
	q, r, err := limb.QuoRem(limb.Of(-7), limb.Of(2))
	is(t, "QuoRem(-7, 2), quotient", q, err, neg(3))
	is(t, "QuoRem(-7, 2), rest", r, err, neg(1))
	q, r, err = limb.QuoRem(limb.Of(7), limb.Of(-2))
	is(t, "QuoRem(7, -2), quotient", q, err, neg(3))
	is(t, "QuoRem(7, -2), rest", r, err, pos(1))
	q, r, err = limb.QuoRem(limb.Of(1), limb.Of(0))
	refused(t, "QuoRem(1, 0), quotient", q, err, api.ErrZero)
	refused(t, "QuoRem(1, 0), rest", r, err, api.ErrZero)
}

func TestExampleExact(t *testing.T) {
	a, err := limb.Exact(limb.Of(-6), limb.Of(3))
	is(t, "Exact(-6, 3)", a, err, neg(2))
	a, err = limb.Exact(limb.Of(7), limb.Of(2))
	refused(t, "Exact(7, 2)", a, err, api.ErrExact)
}

func TestExampleGcd(t *testing.T) {
	for _, c := range [][3]int64{{12, -18, 6}, {0, -5, 5}, {0, 0, 0}} {
		a, err := limb.Gcd(limb.Of(c[0]), limb.Of(c[1]))
		is(t, "Gcd", a, err, limb.Of(c[2]))
	}
}

func TestExampleTexts(t *testing.T) {
	if s := textOf(t, limb.Of(math.MinInt64)); s != "-9223372036854775808" {
		t.Errorf("Text(-2^63): %q", s)
	}
	for _, s := range []string{"007", "-0", "+1", ""} {
		a, err := limb.Parse(s)
		refused(t, "Parse("+s+")", a, err, api.ErrText)
	}
}

func TestExampleFits(t *testing.T) {
	for _, c := range []struct {
		a     api.Int
		limbs int
		want  bool
	}{{pos(0, 1), 1, false}, {pos(0, 1), 2, true}, {pos(), 0, true}, {pos(), -1, false}} {
		if limb.Fits(c.a, c.limbs) != c.want {
			t.Errorf("Fits(%v, %d) isn't %v", c.a, c.limbs, c.want)
		}
	}
}

func TestExampleWide(t *testing.T) {
	for _, a := range []api.Int{power(36), filled(37, 0xffffffff), filled(37, 1)} {
		p, err := limb.Mul(a, a)
		refused(t, "Mul of two of 37 limbs", p, err, api.ErrWide)
	}
}
