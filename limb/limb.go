// Package limb is layer 1: see shared/doc/01-limb.md.
package limb

import (
	"math"

	"shunt/api"
)

// Of is v.
func Of(v int64) api.Int {
	m := uint64(v)
	if v < 0 {
		m = -m // the wrap-round gives -2^63 its magnitude too
	}
	return api.Int{Neg: v < 0, Limbs: fromWord(m)}
}

// Check says whether a is right.
func Check(a api.Int) api.Errno {
	n := len(a.Limbs)
	switch {
	case n > api.MaxScratch:
		return api.ErrInt
	case n == 0 && a.Neg:
		return api.ErrInt
	case n > 0 && a.Limbs[n-1] == 0:
		return api.ErrInt
	}
	return api.OK
}

// Fits says whether a is right and has at most so many limbs.
func Fits(a api.Int, limbs int) bool {
	return Check(a) == api.OK && len(a.Limbs) <= limbs
}

// Int64 is a as an int64.
func Int64(a api.Int) (int64, api.Errno) {
	if Check(a) != api.OK {
		return 0, api.ErrInt
	}
	if len(a.Limbs) > 2 {
		return 0, api.ErrRange
	}
	m := toWord(a.Limbs)
	switch {
	case a.Neg && m <= 1<<63:
		return int64(-m), api.OK
	case !a.Neg && m <= math.MaxInt64:
		return int64(m), api.OK
	}
	return 0, api.ErrRange
}

// Cmp holds a against b.
func Cmp(a, b api.Int) (int, api.Errno) {
	if wrong(a, b) {
		return 0, api.ErrInt
	}
	switch {
	case a.Neg && b.Neg:
		return compare(b.Limbs, a.Limbs), api.OK
	case a.Neg:
		return -1, api.OK
	case b.Neg:
		return 1, api.OK
	}
	return compare(a.Limbs, b.Limbs), api.OK
}

// Add is a + b.
func Add(a, b api.Int) (api.Int, api.Errno) {
	if wrong(a, b) {
		return api.Int{}, api.ErrInt
	}
	return signedSum(a, b.Neg, b.Limbs)
}

// Sub is a - b.
func Sub(a, b api.Int) (api.Int, api.Errno) {
	if wrong(a, b) {
		return api.Int{}, api.ErrInt
	}
	return signedSum(a, !b.Neg, b.Limbs)
}

// Mul is a times b.
func Mul(a, b api.Int) (api.Int, api.Errno) {
	if wrong(a, b) {
		return api.Int{}, api.ErrInt
	}
	// A product has all limbs of both, or one less: spare the work where even that is too wide.
	if len(a.Limbs)+len(b.Limbs)-1 > api.MaxScratch {
		return api.Int{}, api.ErrWide
	}
	return answer(a.Neg != b.Neg, product(a.Limbs, b.Limbs))
}

// QuoRem divides, cut toward 0.
func QuoRem(a, b api.Int) (api.Int, api.Int, api.Errno) {
	if wrong(a, b) {
		return api.Int{}, api.Int{}, api.ErrInt
	}
	if len(b.Limbs) == 0 {
		return api.Int{}, api.Int{}, api.ErrZero
	}
	q, r := divide(a.Limbs, b.Limbs)
	return signed(a.Neg != b.Neg, q), signed(a.Neg, r), api.OK
}

// Exact divides without rest.
func Exact(a, b api.Int) (api.Int, api.Errno) {
	q, r, err := QuoRem(a, b)
	if err != api.OK {
		return api.Int{}, err
	}
	if len(r.Limbs) > 0 {
		return api.Int{}, api.ErrExact
	}
	return q, api.OK
}

// Gcd is the greatest common divisor.
func Gcd(a, b api.Int) (api.Int, api.Errno) {
	if wrong(a, b) {
		return api.Int{}, api.ErrInt
	}
	return signed(false, divisor(a.Limbs, b.Limbs)), api.OK
}

func wrong(a, b api.Int) bool {
	return Check(a) != api.OK || Check(b) != api.OK
}

// signedSum is a plus the number of a sign and a magnitude; 0 may come with either sign, so that Sub needs no case for it.
func signedSum(a api.Int, neg bool, b []uint32) (api.Int, api.Errno) {
	switch {
	case a.Neg == neg:
		return answer(neg, sum(a.Limbs, b))
	case compare(a.Limbs, b) < 0:
		return answer(neg, difference(b, a.Limbs))
	}
	return answer(a.Neg, difference(a.Limbs, b))
}

// signed joins a sign and a trimmed magnitude; 0 has no sign.
func signed(neg bool, m []uint32) api.Int {
	return api.Int{Neg: neg && len(m) > 0, Limbs: m}
}

// answer is signed for magnitudes that may be too wide.
func answer(neg bool, m []uint32) (api.Int, api.Errno) {
	if len(m) > api.MaxScratch {
		return api.Int{}, api.ErrWide
	}
	return signed(neg, m), api.OK
}
