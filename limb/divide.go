package limb

import "math/bits"

// divide answers the quotient and the rest; b is not 0. The two share no memory.
func divide(a, b []uint32) ([]uint32, []uint32) {
	switch {
	case compare(a, b) < 0:
		return nil, duplicate(a)
	case len(b) == 1:
		q := duplicate(a)
		r := divideSmall(q, b[0])
		return trim(q), fromWord(uint64(r))
	}
	return divideLong(a, b)
}

func duplicate(m []uint32) []uint32 {
	return append([]uint32(nil), m...)
}

// divideSmall divides m in place, and answers the rest.
func divideSmall(m []uint32, by uint32) uint32 {
	var rest uint64
	for i := len(m) - 1; i >= 0; i-- {
		rest = rest<<32 | uint64(m[i])
		m[i] = uint32(rest / uint64(by))
		rest %= uint64(by)
	}
	return uint32(rest)
}

// divideLong divides as by hand, limb by limb; b has two limbs at least, and a is not below b. Both are shifted first so
// that b's top bit is set: only then is a quotient's limb guessed nearly right by the top limbs.
func divideLong(a, b []uint32) ([]uint32, []uint32) {
	shift := bits.LeadingZeros32(b[len(b)-1])
	by := shiftLeft(b, shift)[:len(b)]
	rest := shiftLeft(a, shift)
	q := make([]uint32, len(rest)-len(by))
	for i := len(q) - 1; i >= 0; i-- {
		q[i] = takeLimb(rest[i:i+len(by)+1], by)
	}
	shiftRight(rest, shift)
	return trim(q), trim(rest)
}

// shiftLeft has one limb more than m, and is not trimmed.
func shiftLeft(m []uint32, shift int) []uint32 {
	out := make([]uint32, len(m)+1)
	var carry uint64
	for i, x := range m {
		carry |= uint64(x) << shift
		out[i] = uint32(carry)
		carry >>= 32
	}
	out[len(m)] = uint32(carry)
	return out
}

// shiftRight works in place.
func shiftRight(m []uint32, shift int) {
	for i := range m {
		m[i] = uint32((limbAt(m, i+1)<<32 | uint64(m[i])) >> shift)
	}
}

// takeLimb answers how often by goes into part, and takes it off part, in place, so often. Part has one limb more than by.
func takeLimb(part, by []uint32) uint32 {
	guess := guessLimb(part, by)
	if takeTimes(part, by, guess) {
		putBack(part, by)
		guess--
	}
	return guess
}

// guessLimb is right, or 1 too great.
func guessLimb(part, by []uint32) uint32 {
	n := len(by)
	high, next := uint64(by[n-1]), uint64(by[n-2])
	top := uint64(part[n])<<32 | uint64(part[n-1])
	guess, rest := top/high, top%high
	for guess>>32 != 0 || guess*next > rest<<32|uint64(part[n-2]) {
		guess--
		rest += high
		if rest>>32 != 0 {
			break
		}
	}
	return uint32(guess)
}

// takeTimes takes by off part so often, in place, and says whether that went below 0.
func takeTimes(part, by []uint32, times uint32) bool {
	var carry, borrow uint64
	for i := range part {
		carry += limbAt(by, i) * uint64(times)
		d := uint64(part[i]) - carry&0xffffffff - borrow
		part[i] = uint32(d)
		borrow = d >> 63
		carry >>= 32
	}
	return borrow != 0
}

// putBack adds by to part in place; the carry at the end makes up for the borrow that called for it.
func putBack(part, by []uint32) {
	var carry uint64
	for i := range part {
		carry += uint64(part[i]) + limbAt(by, i)
		part[i] = uint32(carry)
		carry >>= 32
	}
}
