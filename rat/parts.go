package rat

import (
	"cmp"

	"shunt/api"
	"shunt/limb"
)

// What these functions are given is right, and divisors aren't 0: then layer 1 refuses nothing of it.

func sign(a api.Int) int {
	switch {
	case a.Neg:
		return -1
	case len(a.Limbs) > 0:
		return 1
	}
	return 0
}

func gcd(a, b api.Int) api.Int {
	d, _ := limb.Gcd(a, b)
	return d
}

func exact(a, b api.Int) api.Int {
	q, _ := limb.Exact(a, b)
	return q
}

func quoRem(a, b api.Int) (api.Int, api.Int) {
	q, r, _ := limb.QuoRem(a, b)
	return q, r
}

// reduced is a and b without what they share.
func reduced(a, b api.Int) (api.Int, api.Int) {
	d := gcd(a, b)
	return exact(a, d), exact(b, d)
}

// signed is a's magnitude with a sign of one's choice. It shares a's memory, so it isn't to be answered.
func signed(neg bool, a api.Int) api.Int {
	return api.Int{Neg: neg && len(a.Limbs) > 0, Limbs: a.Limbs}
}

// opposite is -r; it shares r's memory.
func opposite(r api.Rat) api.Rat {
	return api.Rat{Num: signed(!r.Num.Neg, r.Num), Den: r.Den}
}

// inverse is 1 over r, which isn't 0; it shares r's memory.
func inverse(r api.Rat) api.Rat {
	return api.Rat{Num: signed(r.Num.Neg, r.Den), Den: signed(false, r.Num)}
}

// compare holds fractions above 0 against each other by their whole parts and, where these are one, by their rests
// upside down, the one in the other's place. (The products across may be too wide for layer 1.)
func compare(a, b api.Rat) int {
	for {
		wholeA, restA := quoRem(a.Num, a.Den)
		wholeB, restB := quoRem(b.Num, b.Den)
		if c, _ := limb.Cmp(wholeA, wholeB); c != 0 {
			return c
		}
		if sign(restA) == 0 || sign(restB) == 0 {
			return cmp.Compare(sign(restA), sign(restB))
		}
		a, b = api.Rat{Num: b.Den, Den: restB}, api.Rat{Num: a.Den, Den: restA}
	}
}
