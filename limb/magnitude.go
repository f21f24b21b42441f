package limb

// A magnitude is a list of limbs, the lowest first. What these functions answer is trimmed: the last limb isn't 0, and 0
// is nil. What they are given is trimmed too, and only read, unless a function says that it works in place.

// trim cuts the noughts off the top.
func trim(m []uint32) []uint32 {
	n := len(m)
	for n > 0 && m[n-1] == 0 {
		n--
	}
	if n == 0 {
		return nil
	}
	return m[:n]
}

func fromWord(w uint64) []uint32 {
	return trim([]uint32{uint32(w), uint32(w >> 32)})
}

// toWord is a magnitude of two limbs at most.
func toWord(m []uint32) uint64 {
	return limbAt(m, 1)<<32 | limbAt(m, 0)
}

// limbAt is a limb, or 0 where there is none.
func limbAt(m []uint32, i int) uint64 {
	if i >= len(m) {
		return 0
	}
	return uint64(m[i])
}

func compare(a, b []uint32) int {
	switch {
	case len(a) < len(b):
		return -1
	case len(a) > len(b):
		return 1
	}
	for i := len(a) - 1; i >= 0; i-- {
		switch {
		case a[i] < b[i]:
			return -1
		case a[i] > b[i]:
			return 1
		}
	}
	return 0
}

func sum(a, b []uint32) []uint32 {
	if len(a) < len(b) {
		a, b = b, a
	}
	out := make([]uint32, len(a)+1)
	var carry uint64
	for i := range a {
		carry += uint64(a[i]) + limbAt(b, i)
		out[i] = uint32(carry)
		carry >>= 32
	}
	out[len(a)] = uint32(carry)
	return trim(out)
}

// difference is a - b, where a is not below b.
func difference(a, b []uint32) []uint32 {
	out := make([]uint32, len(a))
	var borrow uint64
	for i := range a {
		d := uint64(a[i]) - limbAt(b, i) - borrow
		out[i] = uint32(d)
		borrow = d >> 63
	}
	return trim(out)
}

func product(a, b []uint32) []uint32 {
	out := make([]uint32, len(a)+len(b))
	for i, x := range a {
		var carry uint64
		for j, y := range b {
			carry += uint64(x)*uint64(y) + uint64(out[i+j])
			out[i+j] = uint32(carry)
			carry >>= 32
		}
		out[i+len(b)] = uint32(carry)
	}
	return trim(out)
}
