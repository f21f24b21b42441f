package limb

import "math/bits"

// divisor is the greatest common divisor, by Euclid's steps. While both numbers are long, as many steps as the top words
// tell for sure are taken at one go (Lehmer's way), so that a long division is rarely needed.
func divisor(a, b []uint32) []uint32 {
	if compare(a, b) < 0 {
		a, b = b, a
	}
	x, y := duplicate(a), duplicate(b)
	for len(y) > 2 {
		s := surely(leading(x, y))
		if s.some() {
			x, y = s.apply(x, y)
		} else {
			_, r := divide(x, y)
			x, y = y, r
		}
	}
	if len(y) == 0 {
		return x
	}
	_, r := divide(x, y)
	return fromWord(wordDivisor(toWord(y), toWord(r)))
}

func wordDivisor(a, b uint64) uint64 {
	for b != 0 {
		a, b = b, a%b
	}
	return a
}

// leading tells the top 64 bits of x, and those of y at the same place; x has three limbs at least, and y no more than x.
func leading(x, y []uint32) (uint64, uint64) {
	n := len(x)
	shift := bits.LeadingZeros32(x[n-1])
	return topWord(x, n, shift), topWord(y, n, shift)
}

func topWord(m []uint32, n, shift int) uint64 {
	word := limbAt(m, n-1)<<32 | limbAt(m, n-2)
	return word<<shift | limbAt(m, n-3)>>(32-shift)
}

// strides are several of Euclid's steps in one: they lead x, y to y0 y - x0 x, x1 x - y1 y, or, if turned, to those with
// the other sign. (The sign turns at each step, and the factors themselves stay above 0.)
type strides struct {
	x0, y0, x1, y1 uint64
	turned         bool
}

// some says whether strides lead anywhere: the first step alone leaves both as they are.
func (s strides) some() bool { return s.y0 != 0 }

// surely takes the steps whose quotients are those of the whole numbers, whatever follows behind the top words (Collins'
// condition). The factors of what it answers stay below 2^32.
func surely(a, b uint64) strides {
	s := strides{x1: 1}
	var x2, y2 uint64 = 0, 1
	for b >= y2 && a-b >= s.y1+y2 {
		q := a / b
		a, b = b, a%b
		s.x0, s.x1, x2 = s.x1, x2, s.x1+q*x2
		s.y0, s.y1, y2 = s.y1, y2, s.y1+q*y2
		s.turned = !s.turned
	}
	return s
}

func (s strides) apply(x, y []uint32) ([]uint32, []uint32) {
	n := len(x)
	if s.turned {
		return blend(n, x, s.x0, y, s.y0), blend(n, y, s.y1, x, s.x1)
	}
	return blend(n, y, s.y0, x, s.x0), blend(n, x, s.x1, y, s.y1)
}

// blend is p a - q b, which is known to be 0 or above and to have n limbs at most; p and q are below 2^32.
func blend(n int, a []uint32, p uint64, b []uint32, q uint64) []uint32 {
	out := make([]uint32, n)
	var up, down, borrow uint64
	for i := range out {
		up += p * limbAt(a, i)
		down += q * limbAt(b, i)
		d := up&0xffffffff - down&0xffffffff - borrow
		out[i] = uint32(d)
		borrow = d >> 63
		up >>= 32
		down >>= 32
	}
	return trim(out)
}
