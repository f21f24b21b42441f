package rat_test

import (
	"slices"
	"testing"

	"shunt/api"
	"shunt/limb"
	"shunt/rat"
)

// dice is a row of numbers that is the same at every run.
type dice uint64

func (d *dice) next() uint64 {
	*d ^= *d << 13
	*d ^= *d >> 7
	*d ^= *d << 17
	return uint64(*d)
}

func (d *dice) below(n int) int { return int(d.next() >> 33 % uint64(n)) }

// limb prefers the limbs at which carries go wrong.
func (d *dice) limb() uint32 {
	if d.below(2) == 0 {
		return uint32(d.next() >> 32)
	}
	return []uint32{0, 1, 0xffffffff, 0xfffffffe, 0x80000000, 0x7fffffff}[d.below(6)]
}

// above has n limbs (1 at least) and is above 0.
func (d *dice) above(n int) api.Int {
	a := api.Int{Limbs: make([]uint32, n)}
	for i := range a.Limbs {
		a.Limbs[i] = d.limb()
	}
	a.Limbs[n-1] |= 1
	return a
}

// either is above with either sign.
func (d *dice) either(n int) api.Int {
	a := d.above(n)
	a.Neg = d.below(2) == 0
	return a
}

// count is from 1 to most, often very little, often nearly all.
func (d *dice) count(most int) int {
	switch d.below(4) {
	case 0:
		return 1 + d.below(min(most, 3))
	case 1:
		return most - d.below(min(most, 3))
	}
	return 1 + d.below(most)
}

// fraction has parts of at most so many limbs; now and then it is 0.
func (d *dice) fraction(nums, dens int) api.Rat {
	if d.below(20) == 0 {
		return ratio(0, 1)
	}
	return over(d.either(d.count(nums)), d.above(d.count(dens)))
}

// over is num over den, which is above 0, in lowest terms, worked out by layer 1 alone.
func over(num, den api.Int) api.Rat {
	g, _ := limb.Gcd(num, den)
	n, _ := limb.Exact(num, g)
	m, _ := limb.Exact(den, g)
	return api.Rat{Num: n, Den: m}
}

// ratio has just those parts.
func ratio(n, d int64) api.Rat { return api.Rat{Num: limb.Of(n), Den: limb.Of(d)} }

// whole is a over 1.
func whole(a api.Int) api.Rat { return api.Rat{Num: a, Den: limb.Of(1)} }

// filled has n limbs of one kind.
func filled(n int, x uint32) api.Int { return api.Int{Limbs: slices.Repeat([]uint32{x}, n)} }

// most is the greatest right whole number.
func most() api.Int { return filled(72, 0xffffffff) }

// power is 2 to the power 32 n.
func power(n int) api.Int {
	a := api.Int{Limbs: make([]uint32, n+1)}
	a.Limbs[n] = 1
	return a
}

func minus(a api.Int) api.Int { return api.Int{Neg: !a.Neg && len(a.Limbs) > 0, Limbs: a.Limbs} }

// sure gives what layer 1 answers where it can't refuse.
func sure(a api.Int, err api.Errno) api.Int {
	if err != api.OK {
		panic(err)
	}
	return a
}

func oneInt(a, b api.Int) bool   { return a.Neg == b.Neg && slices.Equal(a.Limbs, b.Limbs) }
func one(a, b api.Rat) bool      { return oneInt(a.Num, b.Num) && oneInt(a.Den, b.Den) }
func zeroInt(a api.Int) bool     { return !a.Neg && len(a.Limbs) == 0 }
func zero(a api.Rat) bool        { return zeroInt(a.Num) && zeroInt(a.Den) }
func negative(a api.Rat) api.Rat { return api.Rat{Num: minus(a.Num), Den: a.Den} }

// right says whether r is right, by layer 1 alone.
func right(r api.Rat) bool {
	g, err := limb.Gcd(r.Num, r.Den)
	return err == api.OK && !r.Den.Neg && len(r.Den.Limbs) > 0 && oneInt(g, limb.Of(1))
}

// good fails unless an answer came without error and is right.
func good(t *testing.T, what string, a api.Rat, err api.Errno) api.Rat {
	t.Helper()
	if err != api.OK {
		t.Fatalf("%s: error %d", what, err)
	}
	if !right(a) {
		t.Fatalf("%s: an answer that isn't right: %v", what, a)
	}
	return a
}

func is(t *testing.T, what string, a api.Rat, err api.Errno, want api.Rat) {
	t.Helper()
	if good(t, what, a, err); !one(a, want) {
		t.Errorf("%s: %v, not %v", what, a, want)
	}
}

func isInt(t *testing.T, what string, a api.Int, err api.Errno, want api.Int) {
	t.Helper()
	if err != api.OK || !oneInt(a, want) {
		t.Errorf("%s: %v with error %d, not %v", what, a, err, want)
	}
}

// refused fails unless the answer is that error beside a zero value.
func refused(t *testing.T, what string, a api.Rat, err, want api.Errno) {
	t.Helper()
	if err != want || !zero(a) {
		t.Errorf("%s: error %d beside %v, not error %d beside nothing", what, err, a, want)
	}
}

func refusedInt(t *testing.T, what string, a api.Int, err, want api.Errno) {
	t.Helper()
	if err != want || !zeroInt(a) {
		t.Errorf("%s: error %d beside %v, not error %d beside 0", what, err, a, want)
	}
}

func must(t *testing.T) func(a api.Rat, err api.Errno) api.Rat {
	return func(a api.Rat, err api.Errno) api.Rat {
		t.Helper()
		return good(t, "answer", a, err)
	}
}

type pairCall = func(a, b api.Rat) (api.Rat, api.Errno)

// pairCalls are the calls that make a fraction of two.
func pairCalls() map[string]pairCall {
	return map[string]pairCall{"Add": rat.Add, "Sub": rat.Sub, "Mul": rat.Mul, "Div": rat.Div}
}
