package num

import (
	"shunt/api"
	"shunt/rat"
)

// scaled is mant, which is a right number's, times ten to the power exp, which is from -18 to 18. The power is taken in
// halves, for up to the ninth a power of ten is one limb.
func scaled(mant int64, exp int) api.Rat {
	half := exp / 2
	value, _ := rat.Mul(whole(mant), tenTo(half))
	value, _ = rat.Mul(value, tenTo(exp-half))
	return value
}

// tenTo is ten to the power exp, which is from -9 to 9.
func tenTo(exp int) api.Rat {
	power := int64(1)
	for range max(exp, -exp) {
		power *= 10
	}
	r := whole(power)
	if exp < 0 {
		r.Num, r.Den = r.Den, r.Num
	}
	return r
}

// whole is n, whose magnitude is below 2 to the power 32, over 1.
func whole(n int64) api.Rat {
	r := api.Rat{Den: api.Int{Limbs: []uint32{1}}}
	if n != 0 {
		r.Num = api.Int{Neg: n < 0, Limbs: []uint32{uint32(max(n, -n))}}
	}
	return r
}
