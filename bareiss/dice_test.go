package bareiss_test

import (
	"slices"

	"shunt/api"
	"shunt/limb"
)

// dice is a row of numbers that is the same at every run.
type dice uint64

func (d *dice) next() uint64 {
	*d ^= *d << 13
	*d ^= *d >> 7
	*d ^= *d << 17
	return uint64(*d)
}

func (d *dice) below(n int) int { return int(d.next() >> 33 % uint64(n)) }

// one is one in so many.
func (d *dice) one(n int) bool { return d.below(n) == 0 }

// bits is a number of at most so many bits, of either sign, near a power of 2 now and then.
func (d *dice) bits(most int) api.Int {
	n := d.below(most + 1)
	if d.one(3) {
		n = most
	}
	var a api.Int
	switch {
	case n == 0:
		return a
	case d.one(6):
		a = minus(twoTo(n), limb.Of(1))
	case d.one(6):
		a = twoTo(n - 1)
	default:
		a = d.long(n)
	}
	return api.Int{Neg: d.one(2), Limbs: a.Limbs}
}

// long is a number of just so many bits, 1 at least, above 0.
func (d *dice) long(bits int) api.Int {
	a := twoTo(bits - 1)
	for i := range a.Limbs {
		fresh := uint32(d.next() >> 32)
		if i == len(a.Limbs)-1 {
			fresh &= a.Limbs[i] - 1
		}
		a.Limbs[i] |= fresh
	}
	return a
}

// small is a number of at most so great a size.
func (d *dice) small(most int) api.Int { return limb.Of(int64(d.below(2*most+1) - most)) }

// matrix is one of so many rows, whose numbers make tells; each is 0 but once in so many times.
func (d *dice) matrix(count, parts int, make func() api.Int) matrix {
	return square(count, func(row, col int) api.Int {
		if !d.one(parts) {
			return api.Int{}
		}
		return make()
	})
}

// side is a right side of so many numbers.
func (d *dice) side(count int, make func() api.Int) []api.Int {
	var l []api.Int
	for range count {
		l = append(l, make())
	}
	return l
}

// shuffled are the numbers from 0 on, so many, in any order.
func (d *dice) shuffled(count int) []int {
	var l []int
	for i := range count {
		l = slices.Insert(l, d.below(i+1), i)
	}
	return l
}
