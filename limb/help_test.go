package limb_test

import (
	"slices"
	"testing"

	"shunt/api"
	"shunt/limb"
)

// dice is a row of numbers that is the same at every run.
type dice uint64

func (d *dice) next() uint64 {
	*d ^= *d << 13
	*d ^= *d >> 7
	*d ^= *d << 17
	return uint64(*d)
}

func (d *dice) below(n int) int { return int(d.next() >> 33 % uint64(n)) }

// limb prefers the limbs at which carries, borrows and guesses go wrong.
func (d *dice) limb() uint32 {
	if d.below(2) == 0 {
		return uint32(d.next() >> 32)
	}
	return []uint32{0, 1, 0xffffffff, 0xfffffffe, 0x80000000, 0x7fffffff}[d.below(6)]
}

// number has n limbs and either sign.
func (d *dice) number(n int) api.Int {
	a := api.Int{Neg: n > 0 && d.below(2) == 0, Limbs: make([]uint32, n)}
	for i := range a.Limbs {
		a.Limbs[i] = d.limb()
	}
	if n > 0 && a.Limbs[n-1] == 0 {
		a.Limbs[n-1] = 1
	}
	return a
}

// some is a number of at most so many limbs, often of very few, often of nearly all.
func (d *dice) some(most int) api.Int {
	switch d.below(4) {
	case 0:
		return d.number(d.below(min(most, 4) + 1))
	case 1:
		return d.number(most - d.below(min(most, 3)+1))
	}
	return d.number(d.below(most + 1))
}

func pos(limbs ...uint32) api.Int { return api.Int{Limbs: limbs} }
func neg(limbs ...uint32) api.Int { return api.Int{Neg: true, Limbs: limbs} }

// filled has n limbs of one kind.
func filled(n int, x uint32) api.Int { return api.Int{Limbs: slices.Repeat([]uint32{x}, n)} }

// power is 2 to the power 32 n.
func power(n int) api.Int {
	a := api.Int{Limbs: make([]uint32, n+1)}
	a.Limbs[n] = 1
	return a
}

func one(a, b api.Int) bool { return a.Neg == b.Neg && slices.Equal(a.Limbs, b.Limbs) }

func zero(a api.Int) bool { return !a.Neg && len(a.Limbs) == 0 }

// good fails unless an answer came without error and is right.
func good(t *testing.T, what string, a api.Int, err api.Errno) api.Int {
	t.Helper()
	if err != api.OK {
		t.Fatalf("%s: error %d", what, err)
	}
	n := len(a.Limbs)
	if n > api.MaxScratch || n == 0 && a.Neg || n > 0 && a.Limbs[n-1] == 0 {
		t.Fatalf("%s: an answer that isn't right: %v", what, a)
	}
	return a
}

func is(t *testing.T, what string, a api.Int, err api.Errno, want api.Int) {
	t.Helper()
	if good(t, what, a, err); !one(a, want) {
		t.Errorf("%s: %v, not %v", what, a, want)
	}
}

// refused fails unless the answer is that error beside a zero value.
func refused(t *testing.T, what string, a api.Int, err, want api.Errno) {
	t.Helper()
	if err != want || !zero(a) {
		t.Errorf("%s: error %d beside %v, not error %d beside 0", what, err, a, want)
	}
}

// primes tell numbers apart by what they leave when divided: two that differ in a few limbs, or by chance, differ there.
var primes = []uint64{4294967291, 4294967279, 4294967231, 4294967197, 2147483647, 1000000007, 65537, 10007}

// left is a modulo p, worked out limb by limb without the package.
func left(a api.Int, p uint64) uint64 {
	var r uint64
	for i := len(a.Limbs) - 1; i >= 0; i-- {
		r = (r<<32 | uint64(a.Limbs[i])) % p
	}
	if a.Neg {
		r = (p - r) % p
	}
	return r
}

// agrees fails unless got is what f makes of a and b, by every prime.
func agrees(t *testing.T, what string, got, a, b api.Int, f func(x, y, p uint64) uint64) {
	t.Helper()
	for _, p := range primes {
		if left(got, p) != f(left(a, p), left(b, p), p) {
			t.Fatalf("%s of %v and %v: %v", what, a, b, got)
		}
	}
}

func plus(x, y, p uint64) uint64  { return (x + y) % p }
func minus(x, y, p uint64) uint64 { return (x + p - y) % p }
func times(x, y, p uint64) uint64 { return x * y % p }

func must(t *testing.T) func(a api.Int, err api.Errno) api.Int {
	return func(a api.Int, err api.Errno) api.Int {
		t.Helper()
		return good(t, "answer", a, err)
	}
}

// size holds magnitudes against each other without the package.
func size(a, b api.Int) int {
	if len(a.Limbs) != len(b.Limbs) {
		return len(a.Limbs) - len(b.Limbs)
	}
	for i := len(a.Limbs) - 1; i >= 0; i-- {
		if a.Limbs[i] != b.Limbs[i] {
			if a.Limbs[i] < b.Limbs[i] {
				return -1
			}
			return 1
		}
	}
	return 0
}

func textOf(t *testing.T, a api.Int) string {
	t.Helper()
	s, err := limb.Text(a)
	if err != api.OK {
		t.Fatalf("Text(%v): error %d", a, err)
	}
	return s
}
