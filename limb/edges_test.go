package limb_test

import (
	"math"
	"strings"
	"testing"

	"shunt/api"
	"shunt/limb"
)

// wrongs are numbers that aren't right, in each way there is.
func wrongs() []api.Int {
	return []api.Int{
		neg(), {Neg: true, Limbs: []uint32{}}, pos(0), neg(0), pos(5, 0), neg(5, 0, 0),
		filled(73, 1), filled(73, 0), filled(1000, 0xffffffff), filled(72, 0),
		{Neg: true, Limbs: filled(73, 1).Limbs},
	}
}

// rights are right numbers at the edges.
func rights() []api.Int {
	return []api.Int{
		{}, {Limbs: []uint32{}}, pos(1), neg(1), pos(0xffffffff), pos(0, 1), neg(0, 0, 7),
		power(71), filled(72, 0xffffffff), {Neg: true, Limbs: filled(72, 1).Limbs},
	}
}

func TestCheckAndFits(t *testing.T) {
	for _, a := range wrongs() {
		if err := limb.Check(a); err != api.ErrInt {
			t.Errorf("Check(%v): %d", a, err)
		}
		if limb.Fits(a, len(a.Limbs)) || limb.Fits(a, math.MaxInt) {
			t.Errorf("Fits takes %v", a)
		}
	}
	for _, a := range rights() {
		n := len(a.Limbs)
		if err := limb.Check(a); err != api.OK {
			t.Errorf("Check(%v): %d", a, err)
		}
		if !limb.Fits(a, n) || !limb.Fits(a, math.MaxInt) || limb.Fits(a, n-1) || limb.Fits(a, math.MinInt) {
			t.Errorf("Fits of %d limbs", n)
		}
	}
}

// A number that isn't right is told ahead of everything else, on either side.
func TestWrongNumbers(t *testing.T) {
	others := append(rights(), wrongs()...)
	for _, w := range wrongs() {
		n, err := limb.Int64(w)
		if n != 0 || err != api.ErrInt {
			t.Errorf("Int64(%v): %d, %d", w, n, err)
		}
		s, err := limb.Text(w)
		if s != "" || err != api.ErrInt {
			t.Errorf("Text(%v): %q, %d", w, s, err)
		}
		for _, o := range others {
			refuseBoth(t, w, o)
			refuseBoth(t, o, w)
		}
	}
}

func refuseBoth(t *testing.T, a, b api.Int) {
	t.Helper()
	if c, err := limb.Cmp(a, b); c != 0 || err != api.ErrInt {
		t.Errorf("Cmp: %d, %d", c, err)
	}
	for name, f := range map[string]func(a, b api.Int) (api.Int, api.Errno){
		"Add": limb.Add, "Sub": limb.Sub, "Mul": limb.Mul, "Exact": limb.Exact, "Gcd": limb.Gcd,
	} {
		c, err := f(a, b)
		refused(t, name, c, err, api.ErrInt)
	}
	q, r, err := limb.QuoRem(a, b)
	refused(t, "QuoRem, quotient", q, err, api.ErrInt)
	refused(t, "QuoRem, rest", r, err, api.ErrInt)
}

func TestInt64(t *testing.T) {
	for _, v := range []int64{
		0, 1, -1, 5, 1<<31 - 1, 1 << 31, 1<<32 - 1, 1 << 32, -1 << 32, 1 - 1<<32, 1<<33 + 1,
		math.MaxInt64, math.MaxInt64 - 1, math.MinInt64, math.MinInt64 + 1,
	} {
		a := good(t, "Of", limb.Of(v), 0)
		if back, err := limb.Int64(a); back != v || err != api.OK {
			t.Errorf("Int64(Of(%d)): %d, %d", v, back, err)
		}
		for _, p := range primes {
			want := v % int64(p)
			if want < 0 {
				want += int64(p)
			}
			if left(a, p) != uint64(want) {
				t.Errorf("Of(%d): %v", v, a)
			}
		}
	}
	for _, a := range []api.Int{
		pos(0, 1<<31), neg(1, 1<<31), pos(0xffffffff, 0xffffffff), neg(0xffffffff, 0xffffffff),
		pos(0, 0, 1), neg(0, 0, 1), pos(5, 0, 1), filled(72, 0xffffffff), power(71),
	} {
		if v, err := limb.Int64(a); v != 0 || err != api.ErrRange {
			t.Errorf("Int64(%v): %d, %d", a, v, err)
		}
	}
}

func TestCmp(t *testing.T) {
	// Each one is less than all behind it.
	row := []api.Int{
		{Neg: true, Limbs: filled(72, 0xffffffff).Limbs}, {Neg: true, Limbs: power(71).Limbs}, neg(0, 0, 1), neg(0, 2), neg(0xffffffff, 1),
		neg(0, 1), neg(0xffffffff), neg(2), neg(1), pos(), pos(1), pos(2), pos(0xffffffff), pos(0, 1), pos(1, 1),
		pos(0, 2), pos(0, 0, 1), power(71), filled(72, 1), filled(72, 0xffffffff),
	}
	for i, a := range row {
		for j, b := range row {
			want := 0
			if i < j {
				want = -1
			}
			if i > j {
				want = 1
			}
			if c, err := limb.Cmp(a, b); c != want || err != api.OK {
				t.Errorf("Cmp(%v, %v): %d, %d", a, b, c, err)
			}
		}
	}
	if c, err := limb.Cmp(api.Int{}, api.Int{Limbs: []uint32{}}); c != 0 || err != api.OK {
		t.Error("Cmp of 0 and 0:", c, err)
	}
}

func TestWideSums(t *testing.T) {
	most := filled(72, 0xffffffff)
	least := api.Int{Neg: true, Limbs: most.Limbs}
	a, err := limb.Add(most, limb.Of(1))
	refused(t, "the greatest and 1", a, err, api.ErrWide)
	a, err = limb.Add(most, most)
	refused(t, "the greatest and itself", a, err, api.ErrWide)
	a, err = limb.Add(limb.Of(-1), least)
	refused(t, "-1 and the least", a, err, api.ErrWide)
	a, err = limb.Sub(least, limb.Of(1))
	refused(t, "the least less 1", a, err, api.ErrWide)
	a, err = limb.Sub(limb.Of(1), least)
	refused(t, "1 less the least", a, err, api.ErrWide)
	a, err = limb.Sub(most, most)
	is(t, "the greatest less itself", a, err, pos())
	a, err = limb.Add(least, most)
	is(t, "the least and the greatest", a, err, pos())
	a, err = limb.Sub(most, limb.Of(0))
	is(t, "the greatest less 0", a, err, most)
	a, err = limb.Sub(limb.Of(0), most)
	is(t, "0 less the greatest", a, err, least)
	a, err = limb.Sub(power(71), limb.Of(1))
	is(t, "a borrow through all limbs", a, err, filled(71, 0xffffffff))
	a, err = limb.Add(filled(71, 0xffffffff), limb.Of(1))
	is(t, "a carry through all limbs", a, err, power(71))
}

func TestWideProducts(t *testing.T) {
	most := filled(72, 0xffffffff)
	a, err := limb.Mul(most, limb.Of(-1))
	is(t, "the greatest times -1", a, err, api.Int{Neg: true, Limbs: most.Limbs})
	a, err = limb.Mul(most, limb.Of(0))
	is(t, "the greatest times 0", a, err, pos())
	a, err = limb.Mul(limb.Of(0), neg(5))
	is(t, "0 times -5", a, err, pos())
	a, err = limb.Mul(most, limb.Of(2))
	refused(t, "the greatest times 2", a, err, api.ErrWide)
	a, err = limb.Mul(power(35), power(36))
	is(t, "36 limbs times 37 limbs, the least", a, err, power(71))
	a, err = limb.Mul(filled(36, 0xffffffff), filled(37, 0xffffffff))
	refused(t, "36 limbs times 37 limbs, the greatest", a, err, api.ErrWide)
	a, err = limb.Mul(power(71), power(1))
	refused(t, "72 limbs times 2 limbs", a, err, api.ErrWide)
	a, err = limb.Mul(power(71), limb.Of(0xffffffff))
	if good(t, "72 limbs times 1 limb", a, err); len(a.Limbs) != 72 || a.Limbs[71] != 0xffffffff {
		t.Error("72 limbs times 1 limb:", a)
	}
}

func TestDivisionErrors(t *testing.T) {
	for _, a := range rights() {
		q, r, err := limb.QuoRem(a, api.Int{})
		refused(t, "QuoRem by 0, quotient", q, err, api.ErrZero)
		refused(t, "QuoRem by 0, rest", r, err, api.ErrZero)
		// 0 divides nothing: the division by 0 is told first.
		q, err = limb.Exact(a, api.Int{Limbs: []uint32{}})
		refused(t, "Exact by 0", q, err, api.ErrZero)
	}
	for _, c := range [][2]api.Int{{pos(1), pos(2)}, {pos(1), power(71)}, {neg(1), neg(7)}, {pos(1, 0, 1), pos(0, 1)}, {filled(72, 0xffffffff), pos(2)}, {pos(9, 9, 9), neg(9, 9)}} {
		q, err := limb.Exact(c[0], c[1])
		refused(t, "Exact with a rest", q, err, api.ErrExact)
	}
	q, err := limb.Exact(api.Int{}, neg(3))
	is(t, "Exact(0, -3)", q, err, pos())
}

func TestParseLengths(t *testing.T) {
	long := strings.Repeat("9", 1024)
	a, err := limb.Parse(long)
	refused(t, "1024 digits", a, err, api.ErrWide)
	a, err = limb.Parse("-" + long[1:])
	refused(t, "1023 digits below 0", a, err, api.ErrWide)
	for _, s := range []string{long + "9", "-" + long, strings.Repeat("x", 1025), strings.Repeat("0", 1025), strings.Repeat("9", 100000)} {
		a, err = limb.Parse(s)
		refused(t, "1025 bytes or more", a, err, api.ErrLong)
	}
	// A text that is no number is told ahead of one that is too wide.
	for _, s := range []string{long[1:] + "x", "0" + long[1:], "--" + long[2:], strings.Repeat("0", 1024)} {
		a, err = limb.Parse(s)
		refused(t, "1024 bytes that are no number", a, err, api.ErrText)
	}
}

func TestParseWide(t *testing.T) {
	most := filled(72, 0xffffffff)
	s := textOf(t, most)
	a, err := limb.Parse(s)
	is(t, "the greatest", a, err, most)
	a, err = limb.Parse("-" + s)
	is(t, "the least", a, err, api.Int{Neg: true, Limbs: most.Limbs})
	// 2^2304 ends with a 6, so the greatest ends with a 5: one more has 73 limbs.
	if !strings.HasSuffix(s, "5") {
		t.Fatal("the greatest:", s)
	}
	next := strings.TrimSuffix(s, "5") + "6"
	a, err = limb.Parse(next)
	refused(t, "one above the greatest", a, err, api.ErrWide)
	a, err = limb.Parse("-" + next)
	refused(t, "one below the least", a, err, api.ErrWide)
}

func TestParseTexts(t *testing.T) {
	for _, s := range []string{
		"", "-", "--1", "-0", "-00", "00", "01", "-01", "+1", "+0", "1-", "1+", " 1", "1 ", "1\n", "1\x00", "\x001",
		"x", "1x", "0x1", "1e3", "1.0", "1_000", "1,000", "/", ":", "1/", "1:", "٣", "1é", "\xff", "- 1", "−1",
	} {
		a, err := limb.Parse(s)
		refused(t, "Parse("+s+")", a, err, api.ErrText)
	}
	for s, want := range map[string]api.Int{
		"0": pos(), "9": pos(9), "-9": neg(9), "10": pos(10), "999999999": pos(999999999), "1000000000": pos(1000000000),
		"4294967295": pos(0xffffffff), "4294967296": pos(0, 1), "-4294967297": neg(1, 1),
		"18446744073709551615": pos(0xffffffff, 0xffffffff), "18446744073709551616": pos(0, 0, 1),
	} {
		a, err := limb.Parse(s)
		is(t, "Parse("+s+")", a, err, want)
		if back := textOf(t, want); back != s {
			t.Errorf("Text(%v): %q", want, back)
		}
	}
}
