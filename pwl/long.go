package pwl

import (
	"slices"

	"shunt/api"
	"shunt/limb"
	"shunt/rat"
)

// A current is a quotient of two sums of products, which may have more limbs than layer 1 answers, though what comes of
// rounding is short. So they are reckoned here, limb by limb, however long they are.

// product is a times b.
func product(a, b api.Int) api.Int {
	limbs := make([]uint32, len(a.Limbs)+len(b.Limbs))
	for i, x := range a.Limbs {
		carry := uint64(0)
		for j, y := range b.Limbs {
			carry += uint64(x)*uint64(y) + uint64(limbs[i+j])
			limbs[i+j] = uint32(carry)
			carry >>= 32
		}
		limbs[i+len(b.Limbs)] = uint32(carry)
	}
	return whole(a.Neg != b.Neg, limbs)
}

// sum is a + b.
func sum(a, b api.Int) api.Int {
	size := max(len(a.Limbs), len(b.Limbs)) + 1
	x, y := widened(a.Limbs, size), widened(b.Limbs, size)
	if a.Neg == b.Neg {
		add(x, y)
		return whole(a.Neg, x)
	}
	if less(x, y) {
		take(y, x)
		return whole(b.Neg, y)
	}
	take(x, y)
	return whole(a.Neg, x)
}

// quotientBits are enough for twice what is on the grid and more, and so few that twice such a quotient, and 1, is an int64.
const quotientBits = 61

// rounded is a over b, which is above 0, as layer 2 rounds it: a fourth more than a number of halves is rounded as whatever
// lies between these and one half more.
func rounded(a, b api.Int) (int64, api.Errno) {
	halves, rest := quotient(product(a, limb.Of(2)), b)
	fourths := 2 * halves
	if rest {
		fourths++
	}
	if a.Neg {
		fourths = -fourths
	}
	r, _ := rat.Make(limb.Of(fourths), limb.Of(4))
	return rat.Round(r)
}

// quotient is how often b goes into a, of their magnitudes, and whether something is left then. One of more than quotientBits
// is cut to the greatest that has so many, which is off the grid, too.
func quotient(a, b api.Int) (int64, bool) {
	top := product(b, limb.Of(1<<quotientBits))
	size := max(len(a.Limbs), len(top.Limbs))
	left, part := widened(a.Limbs, size), widened(top.Limbs, size)
	count := int64(0)
	for range quotientBits {
		halve(part)
		count *= 2
		if !less(left, part) {
			take(left, part)
			count++
		}
	}
	return count, slices.ContainsFunc(left, func(x uint32) bool { return x != 0 })
}

// whole is the number of these limbs, the noughts at their end left out.
func whole(neg bool, limbs []uint32) api.Int {
	size := len(limbs)
	for size > 0 && limbs[size-1] == 0 {
		size--
	}
	return api.Int{Neg: neg && size > 0, Limbs: limbs[:size]}
}

// widened is a copy of limbs with noughts behind, so many in all.
func widened(limbs []uint32, size int) []uint32 {
	return append(slices.Clone(limbs), make([]uint32, size-len(limbs))...)
}

// The lists of limbs of the calls below are equally long.

// add adds b to a, in which it has room.
func add(a, b []uint32) {
	carry := uint64(0)
	for i, x := range b {
		carry += uint64(a[i]) + uint64(x)
		a[i] = uint32(carry)
		carry >>= 32
	}
}

// take takes b from a, which isn't less.
func take(a, b []uint32) {
	borrow := uint64(0)
	for i, x := range b {
		rest := uint64(a[i]) - uint64(x) - borrow
		a[i] = uint32(rest)
		borrow = rest >> 63
	}
}

func less(a, b []uint32) bool {
	for i := len(a) - 1; i >= 0; i-- {
		if a[i] != b[i] {
			return a[i] < b[i]
		}
	}
	return false
}

// halve halves an even number.
func halve(a []uint32) {
	for i := range a {
		a[i] >>= 1
		if i+1 < len(a) {
			a[i] |= a[i+1] << 31
		}
	}
}
