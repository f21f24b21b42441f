package stamp

import "shunt/api"

// Quotients are no decimal numbers, so that layer 3 has none of them; of two right numbers they are so short that they are
// reckoned here, limb by limb.

// inverse is 1 over x, which is right and not 0.
func inverse(x api.Num) api.Rat { return quotient(1, x.Mant, -x.Exp) }

// perStep is x over the step, by Trap twice that; x is right and not 0, and s a right setting of time.
func perStep(x api.Num, s api.Setting) api.Rat {
	mant := x.Mant
	if s.Method == api.Trap {
		mant *= 2
	}
	return quotient(mant, s.Step.Mant, x.Exp-s.Step.Exp)
}

// quotient is a over b times ten to the power exp, in lowest terms. The magnitudes of a and b are a limb each, and not 0.
func quotient(a, b int64, exp int) api.Rat {
	top, bottom := uint32(max(a, -a)), uint32(max(b, -b))
	common := divisor(top, bottom)
	top, bottom = top/common, bottom/common
	r := api.Rat{Num: api.Int{Neg: (a < 0) != (b < 0)}}
	if exp < 0 {
		r.Den.Limbs, r.Num.Limbs = grown(bottom, top, -exp)
	} else {
		r.Num.Limbs, r.Den.Limbs = grown(top, bottom, exp)
	}
	return r
}

// grown is a times ten to the power exp, with b, that has no divisor in common with a, freed of what it had in common with
// the power. Ten is no multiple of a square: what is left of it has nothing in common with what is left of b.
func grown(a, b uint32, exp int) ([]uint32, []uint32) {
	limbs := []uint32{a}
	for range exp {
		common := divisor(10, b)
		b /= common
		limbs = times(limbs, 10/common)
	}
	return limbs, []uint32{b}
}

// times multiplies a magnitude by a limb that isn't 0.
func times(limbs []uint32, by uint32) []uint32 {
	var product []uint32
	carry := uint64(0)
	for _, limb := range limbs {
		carry += uint64(limb) * uint64(by)
		product = append(product, uint32(carry))
		carry >>= 32
	}
	if carry > 0 {
		product = append(product, uint32(carry))
	}
	return product
}

// divisor is the greatest that a and b have in common; a isn't 0.
func divisor(a, b uint32) uint32 {
	for b != 0 {
		a, b = b, a%b
	}
	return a
}
