package limb_test

import (
	"testing"

	"shunt/api"
	"shunt/limb"
)

const rounds = 4000

func TestSumsByTheirRests(t *testing.T) {
	d := dice(1)
	for range rounds {
		a, b := d.some(71), d.some(71)
		s, err := limb.Add(a, b)
		agrees(t, "Add", good(t, "Add", s, err), a, b, plus)
		s, err = limb.Sub(a, b)
		agrees(t, "Sub", good(t, "Sub", s, err), a, b, minus)
		c, err := limb.Cmp(a, b)
		if err != api.OK || c < 0 != s.Neg || c == 0 != zero(s) {
			t.Fatalf("Cmp(%v, %v): %d, but their difference is %v", a, b, c, s)
		}
	}
}

func TestProductsByTheirRests(t *testing.T) {
	d := dice(2)
	for range rounds {
		a := d.some(72)
		b := d.some(72 - len(a.Limbs))
		p, err := limb.Mul(a, b)
		agrees(t, "Mul", good(t, "Mul", p, err), a, b, times)
		if p.Neg != (a.Neg != b.Neg && len(p.Limbs) > 0) {
			t.Fatalf("Mul(%v, %v): %v", a, b, p)
		}
	}
}

func TestSumsAndProducts(t *testing.T) {
	d := dice(3)
	ok := must(t)
	for range rounds {
		a, b, c := d.some(35), d.some(35), d.some(36)
		s := ok(limb.Add(a, b))
		if !one(s, ok(limb.Add(b, a))) || !one(ok(limb.Sub(s, a)), b) || !one(ok(limb.Sub(s, b)), a) {
			t.Fatalf("Add(%v, %v): %v", a, b, s)
		}
		p := ok(limb.Mul(a, c))
		if !one(p, ok(limb.Mul(c, a))) {
			t.Fatalf("Mul(%v, %v): %v", a, c, p)
		}
		if !one(ok(limb.Mul(s, c)), ok(limb.Add(p, ok(limb.Mul(b, c))))) {
			t.Fatalf("%v times the sum of %v and %v", c, a, b)
		}
	}
}

// whole fails unless q and r are what QuoRem is to tell of a and b.
func whole(t *testing.T, a, b api.Int) {
	t.Helper()
	q, r, err := limb.QuoRem(a, b)
	good(t, "quotient", q, err)
	good(t, "rest", r, err)
	ok := must(t)
	if !one(ok(limb.Add(ok(limb.Mul(q, b)), r)), a) {
		t.Fatalf("QuoRem(%v, %v): %v, %v don't make up the argument", a, b, q, r)
	}
	if size(r, b) >= 0 || len(r.Limbs) > 0 && r.Neg != a.Neg {
		t.Fatalf("QuoRem(%v, %v): the rest %v", a, b, r)
	}
	for _, p := range primes {
		if left(a, p) != plus(times(left(q, p), left(b, p), p), left(r, p), p) {
			t.Fatalf("QuoRem(%v, %v): %v, %v", a, b, q, r)
		}
	}
}

func TestQuoRem(t *testing.T) {
	d := dice(4)
	for range rounds {
		a, b := d.some(72), d.some(72)
		if len(b.Limbs) > 0 {
			whole(t, a, b)
		}
		// A divisor that is near to the top of what it divides calls for the greatest guesses.
		n := len(a.Limbs)
		if k := d.below(n + 1); k > 0 {
			whole(t, a, api.Int{Limbs: a.Limbs[n-k:]})
		}
	}
}

// At these a guess is too great, by 1 or more, and must be put right or be taken back.
func TestQuoRemGuesses(t *testing.T) {
	for _, c := range [][2]api.Int{
		{pos(3, 0, 0x80000000), pos(1, 0, 0x20000000)},
		{pos(0, 0, 0x80000000, 0x7fffffff), pos(1, 0, 0x80000000)},
		{pos(0, 0xfffffffe, 0x80000000), pos(0xffffffff, 0x80000000)},
		{pos(0, 0, 0, 0x80000000), pos(0xffffffff, 0xffffffff, 0x80000000)},
		{pos(0xffffffff, 0xffffffff, 0xffffffff, 0xfffffffe), pos(0xffffffff, 0xffffffff)},
		{pos(0, 0, 0, 1), pos(1, 0, 1)},
		{pos(0, 0, 1), pos(0xffffffff, 0xffffffff)},
		{filled(72, 0xffffffff), filled(36, 0xffffffff)},
		{filled(72, 0xffffffff), filled(2, 0x80000000)},
		{power(71), pos(1, 1)},
		{power(71), power(70)},
		{power(71), power(71)},
		{filled(72, 0xffffffff), pos(1)},
		{filled(72, 0xffffffff), pos(0xffffffff)},
		{pos(), filled(72, 1)},
	} {
		for _, signs := range [][2]bool{{false, false}, {false, true}, {true, false}, {true, true}} {
			a, b := c[0], c[1]
			a.Neg, b.Neg = signs[0] && len(a.Limbs) > 0, signs[1]
			whole(t, a, b)
		}
	}
}

func TestExact(t *testing.T) {
	d := dice(5)
	ok := must(t)
	for range rounds {
		a := d.some(71)
		b := d.number(1 + d.below(72-len(a.Limbs)))
		p := ok(limb.Mul(a, b))
		if q := ok(limb.Exact(p, b)); !one(q, a) {
			t.Fatalf("Exact(%v, %v): %v, not %v", p, b, q, a)
		}
		if one(b, limb.Of(1)) || one(b, limb.Of(-1)) {
			continue
		}
		if more, err := limb.Add(p, limb.Of(1)); err == api.OK {
			q, err := limb.Exact(more, b)
			refused(t, "Exact of a product and 1", q, err, api.ErrExact)
		}
	}
}

// euclid is the greatest common divisor step by step.
func euclid(t *testing.T, a, b api.Int) api.Int {
	for len(b.Limbs) > 0 {
		_, r, err := limb.QuoRem(a, b)
		good(t, "QuoRem", r, err)
		a, b = b, r
	}
	return api.Int{Limbs: a.Limbs}
}

func TestGcdBySteps(t *testing.T) {
	d := dice(6)
	ok := must(t)
	for range rounds / 10 {
		c := d.some(24)
		a, b := ok(limb.Mul(d.some(48), c)), ok(limb.Mul(d.some(48), c))
		g := ok(limb.Gcd(a, b))
		if g.Neg || !one(g, euclid(t, a, b)) || !one(g, ok(limb.Gcd(b, a))) {
			t.Fatalf("Gcd(%v, %v): %v", a, b, g)
		}
		if len(g.Limbs) > 0 {
			ok(limb.Exact(a, g))
			ok(limb.Exact(b, g))
			if len(c.Limbs) > 0 {
				ok(limb.Exact(g, c))
			}
		}
	}
}

// Two numbers of which one is a multiple of the other, and 1, have no divisor but 1: times c they have c.
func TestGcdOfMade(t *testing.T) {
	d := dice(7)
	ok := must(t)
	for range rounds / 10 {
		a, k, c := d.some(24), d.some(23), d.some(24)
		b := ok(limb.Add(ok(limb.Mul(a, k)), limb.Of(1)))
		g := ok(limb.Gcd(ok(limb.Mul(a, c)), ok(limb.Mul(b, c))))
		if !one(g, api.Int{Limbs: c.Limbs}) {
			t.Fatalf("Gcd of %v and %v times %v: %v", a, b, c, g)
		}
	}
}

// Fibonacci's numbers take Euclid's steps the longest way.
func TestGcdTheLongestWay(t *testing.T) {
	ok := must(t)
	a, b := limb.Of(1), limb.Of(1)
	for {
		c, err := limb.Add(a, b)
		if err != api.OK {
			break
		}
		a, b = b, c
	}
	if g := ok(limb.Gcd(a, b)); !one(g, pos(1)) {
		t.Errorf("the greatest two of Fibonacci: %v", g)
	}
}

func TestGcdEdges(t *testing.T) {
	most := filled(72, 0xffffffff)
	for _, c := range [][3]api.Int{
		{most, {}, most},
		{{}, {Neg: true, Limbs: most.Limbs}, most},
		{most, most, most},
		{most, pos(1), pos(1)},
		{most, pos(0xffffffff), pos(0xffffffff)},
		{most, filled(36, 0xffffffff), filled(36, 0xffffffff)},
		{most, filled(48, 0xffffffff), filled(24, 0xffffffff)},
		{power(71), power(70), power(70)},
		{power(71), pos(0, 6), pos(0, 2)},
		{power(71), most, pos(1)},
		{most, filled(71, 0xffffffff), pos(0xffffffff)},
	} {
		g, err := limb.Gcd(c[0], c[1])
		is(t, "Gcd", g, err, c[2])
		g, err = limb.Gcd(c[1], c[0])
		is(t, "Gcd the other way round", g, err, c[2])
	}
}

func TestThereAndBack(t *testing.T) {
	d := dice(8)
	numbers := rights()
	for range rounds / 4 {
		numbers = append(numbers, d.some(72))
	}
	for _, a := range numbers {
		s := textOf(t, a)
		back, err := limb.Parse(s)
		is(t, "Parse("+s+")", back, err, api.Int{Neg: a.Neg, Limbs: a.Limbs})
		for _, p := range primes {
			if leftOfText(s, p) != left(a, p) {
				t.Fatalf("Text(%v): %s", a, s)
			}
		}
	}
}

// leftOfText is what left is, of digits.
func leftOfText(s string, p uint64) uint64 {
	var r uint64
	for i := range len(s) {
		if s[i] != '-' {
			r = (r*10 + uint64(s[i]-'0')) % p
		}
	}
	if s[0] == '-' {
		r = (p - r) % p
	}
	return r
}

func TestBackAndThere(t *testing.T) {
	d := dice(9)
	for range rounds / 4 {
		text := []byte{byte('1' + d.below(9))}
		for range d.below(690) {
			text = append(text, byte('0'+d.below(10)*d.below(2)))
		}
		s := string(text)
		if d.below(2) == 0 {
			s = "-" + s
		}
		a, err := limb.Parse(s)
		if good(t, "Parse("+s+")", a, err); textOf(t, a) != s {
			t.Fatalf("Text of Parse(%s): %s", s, textOf(t, a))
		}
	}
}
