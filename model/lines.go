package model

import (
	"shunt/api"
	"shunt/num"
	"shunt/rat"
)

// All of a right model's numbers are short, so that layers 2 and 3 refuse none of what is reckoned with them here.

// knot is v, of a right model, on the grid's scale.
func knot(v api.Num) api.Rat {
	volts, _ := num.Value(v)
	scale, _ := num.Value(api.Num{Mant: 1, Exp: 9})
	r, _ := rat.Mul(volts, scale)
	return r
}

// against holds a right fraction against the knot of v.
func against(u api.Rat, v api.Num) int {
	order, _ := rat.Cmp(u, knot(v))
	return order
}

// ownCurrent is the part of the current in the segment k of a right model that doesn't hang on the voltage.
func ownCurrent(m api.Model, k int) api.Rat {
	c, _ := num.Value(api.Num{})
	if m.Kind == 's' {
		return c
	}
	for i := range k {
		c, _ = rat.Add(c, jump(m, i))
	}
	return c
}

// jump is by how much the current's own part has to rise at the knot behind the segment k, for the current to be unbroken.
func jump(m api.Model, k int) api.Rat {
	here, _ := num.Value(m.G[k])
	next, _ := num.Value(m.G[k+1])
	fall, _ := rat.Sub(here, next)
	r, _ := rat.Mul(fall, knot(m.V[k]))
	return r
}
