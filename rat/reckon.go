package rat

import (
	"shunt/api"
	"shunt/limb"
)

// A reckoning adds and multiplies, and remembers whether anything was too wide; what comes behind that is worth nothing.
type reckoning struct{ wide bool }

func (k *reckoning) add(a, b api.Int) api.Int { return k.take(limb.Add(a, b)) }
func (k *reckoning) sub(a, b api.Int) api.Int { return k.take(limb.Sub(a, b)) }
func (k *reckoning) mul(a, b api.Int) api.Int { return k.take(limb.Mul(a, b)) }

func (k *reckoning) take(a api.Int, err api.Errno) api.Int {
	k.wide = k.wide || err != api.OK
	return a
}

func (k *reckoning) answer(num, den api.Int) (api.Rat, api.Errno) {
	if k.wide {
		return api.Rat{}, api.ErrWide
	}
	return api.Rat{Num: num, Den: den}, api.OK
}

// product takes out what the Num of the one and the Den of the other share ahead of multiplying: the products are then
// the answer's own parts, and too wide only where those are.
func product(a, b api.Rat) (api.Rat, api.Errno) {
	numA, denB := reduced(a.Num, b.Den)
	numB, denA := reduced(b.Num, a.Den)
	var k reckoning
	return k.answer(k.mul(numA, numB), k.mul(denA, denB))
}

// sum is a + b. Over the common denominator, which is shared times onlyA times onlyB, the numerators may be too wide for
// layer 1 where the answer isn't. So what the sum can be reduced by is told of remainders; whole parts and rests are
// added apart; and the rests are divided ahead of multiplying. Nothing here is then wider than one of a, b or the answer.
func sum(a, b api.Rat) (api.Rat, api.Errno) {
	var k reckoning
	shared := gcd(a.Den, b.Den)
	onlyA, onlyB := exact(a.Den, shared), exact(b.Den, shared)
	left := k.addModulo(k.mulModulo(a.Num, onlyB, shared), k.mulModulo(b.Num, onlyA, shared), shared)
	taken := gcd(left, shared)
	den := k.mul(onlyA, exact(b.Den, taken))
	wholeA, restA := quoRem(a.Num, a.Den)
	wholeB, restB := quoRem(b.Num, b.Den)
	partA, leftA := k.mulOver(restA, onlyB, taken)
	partB, leftB := k.mulOver(restB, onlyA, taken)
	// Taken divides the sum of the numerators, so what is left of the two is 0, or taken itself, in all.
	carry := exact(k.add(leftA, leftB), taken)
	part := k.add(k.add(partA, partB), carry)
	return k.answer(k.join(k.add(wholeA, wholeB), part, den), den)
}

// mulModulo is a times b modulo d, of a's sign; b is above 0, and b times d isn't too wide.
func (k *reckoning) mulModulo(a, b, d api.Int) api.Int {
	_, rest := quoRem(a, d)
	_, rest = quoRem(k.mul(rest, b), d)
	return rest
}

// addModulo is a + b modulo d, of a, b that are less than d. Of two on one side of 0, b is led to the other side: their
// sum might have one limb more than d.
func (k *reckoning) addModulo(a, b, d api.Int) api.Int {
	if sign(a)*sign(b) > 0 {
		b = k.sub(b, signed(b.Neg, d))
	}
	return k.add(a, b)
}

// mulOver is a times b over d, cut toward 0, and what is left, of a's sign; b is above 0, and neither b times d nor the
// answer is too wide.
func (k *reckoning) mulOver(a, b, d api.Int) (api.Int, api.Int) {
	whole, rest := quoRem(a, d)
	more, left := quoRem(k.mul(rest, b), d)
	return k.add(k.mul(whole, b), more), left
}

// join is whole times den, plus part. Where these are on different sides of 0 (then part is less than den), one den is
// led over from whole to part: on one side, neither is wider than their sum.
func (k *reckoning) join(whole, part, den api.Int) api.Int {
	if sign(whole)*sign(part) < 0 {
		part = k.add(part, signed(whole.Neg, den))
		whole = k.sub(whole, limb.Of(int64(sign(whole))))
	}
	return k.add(k.mul(whole, den), part)
}
