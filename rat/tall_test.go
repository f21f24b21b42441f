package rat_test

import (
	"math/bits"
	"testing"

	"shunt/api"
	"shunt/limb"
)

// A tall number is as long as it needs to be: answers are held against it where what leads to them is longer than layer 1
// allows. It is written apart from the program, by the plainest rules.
type tall struct {
	neg   bool
	limbs []uint32
}

func tallOf(a api.Int) tall { return tall{a.Neg, a.Limbs} }

func small(v int64) tall { return tallOf(limb.Of(v)) }

func trimmed(m []uint32) []uint32 {
	for len(m) > 0 && m[len(m)-1] == 0 {
		m = m[:len(m)-1]
	}
	return m
}

func at(m []uint32, i int) uint64 {
	if i < len(m) {
		return uint64(m[i])
	}
	return 0
}

// size holds magnitudes against each other.
func (a tall) size(b tall) int {
	for i := max(len(a.limbs), len(b.limbs)) - 1; i >= 0; i-- {
		switch x, y := at(a.limbs, i), at(b.limbs, i); {
		case x < y:
			return -1
		case x > y:
			return 1
		}
	}
	return 0
}

func (a tall) sign() int {
	switch {
	case len(a.limbs) == 0:
		return 0
	case a.neg:
		return -1
	}
	return 1
}

func (a tall) opposite() tall { return tall{!a.neg && len(a.limbs) > 0, a.limbs} }

func (a tall) plus(b tall) tall {
	if a.neg != b.neg && a.size(b) < 0 {
		a, b = b, a
	}
	out := make([]uint32, max(len(a.limbs), len(b.limbs))+1)
	var carry int64
	for i := range out {
		if a.neg == b.neg {
			carry += int64(at(a.limbs, i) + at(b.limbs, i))
		} else {
			carry += int64(at(a.limbs, i)) - int64(at(b.limbs, i))
		}
		out[i] = uint32(carry)
		carry >>= 32
	}
	out = trimmed(out)
	return tall{a.neg && len(out) > 0, out}
}

func (a tall) minus(b tall) tall { return a.plus(b.opposite()) }

func (a tall) times(b tall) tall {
	out := make([]uint32, len(a.limbs)+len(b.limbs))
	for i := range a.limbs {
		var carry uint64
		for j := 0; i+j < len(out); j++ {
			carry += at(a.limbs, i)*at(b.limbs, j) + uint64(out[i+j])
			out[i+j] = uint32(carry)
			carry >>= 32
		}
	}
	out = trimmed(out)
	return tall{a.neg != b.neg && len(out) > 0, out}
}

func (a tall) same(b tall) bool { return a.minus(b).sign() == 0 }

// odd is a's magnitude without its factors 2, and how many those were; a isn't 0.
func (a tall) odd() (tall, int) {
	zeros := 0
	for a.limbs[zeros] == 0 {
		zeros++
	}
	m := append([]uint32(nil), a.limbs[zeros:]...)
	shift := bits.TrailingZeros32(m[0])
	for i := range m {
		m[i] = uint32((at(m, i+1)<<32 | uint64(m[i])) >> shift)
	}
	return tall{false, trimmed(m)}, 32*zeros + shift
}

// common is the greatest common divisor, by halving and taking off; b isn't 0.
func (a tall) common(b tall) tall {
	if a.sign() == 0 {
		return tall{false, b.limbs}
	}
	x, twosA := a.odd()
	y, twosB := b.odd()
	for c := x.size(y); c != 0; c = x.size(y) {
		if c < 0 {
			x, y = y, x
		}
		x, _ = x.minus(y).odd()
	}
	twos := min(twosA, twosB)
	shift := make([]uint32, twos/32+1)
	shift[twos/32] = 1 << (twos % 32)
	return x.times(tall{false, shift})
}

// tooWide says whether a over d has more than 72 limbs.
func (a tall) tooWide(d tall) bool {
	return a.size(tall{false, append(make([]uint32, api.MaxScratch), d.limbs...)}) >= 0
}

// holds fails unless an answer is num over den, or refused as too wide where it is.
func holds(t *testing.T, what string, got api.Rat, err api.Errno, num, den tall) {
	t.Helper()
	if err == api.ErrWide {
		d := num.common(den)
		if !num.tooWide(d) && !den.tooWide(d) {
			t.Fatalf("%s: ErrWide where the answer isn't", what)
		}
		refused(t, what, got, err, api.ErrWide)
		return
	}
	good(t, what, got, err)
	if !tallOf(got.Num).times(den).same(num.times(tallOf(got.Den))) {
		t.Fatalf("%s: %v", what, got)
	}
}

func TestTallNumbers(t *testing.T) {
	big := tallOf(most())
	next := big.plus(small(1))
	if len(next.limbs) != 73 || !next.minus(big).same(small(1)) || !next.minus(next).same(small(0)) {
		t.Error("sums:", next)
	}
	if p := next.times(next.opposite()); len(p.limbs) != 145 || p.sign() != -1 || p.limbs[144] != 1 {
		t.Error("products:", p)
	}
	if d := small(-48).common(small(180)); !d.same(small(12)) {
		t.Error("the common divisor of -48 and 180:", d)
	}
	if d := next.common(big); !d.same(small(1)) || !next.common(next).same(next) || !small(0).common(big).same(big) {
		t.Error("common divisors:", d)
	}
	if big.tooWide(small(1)) || !next.tooWide(small(1)) || next.tooWide(small(2)) {
		t.Error("tooWide")
	}
}
