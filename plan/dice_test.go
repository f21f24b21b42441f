package plan_test

import (
	"slices"

	"shunt/api"
	"shunt/limb"
	"shunt/plan"
)

// dice is a row of numbers that is the same at every run.
type dice uint64

func (d *dice) next() uint64 {
	*d ^= *d << 13
	*d ^= *d >> 7
	*d ^= *d << 17
	return uint64(*d)
}

func (d *dice) below(n int) int { return int(d.next() >> 33 % uint64(n)) }

// one is one in so many.
func (d *dice) one(n int) bool { return d.below(n) == 0 }

// number is one other than 0: mostly a small one, now and then one of so many limbs at most.
func (d *dice) number(limbs int) api.Int {
	if !d.one(6) {
		return limb.Of([]int64{-3, -2, -1, 1, 1, 1, 2, 3}[d.below(8)])
	}
	a := api.Int{Neg: d.one(2)}
	for range 1 + d.below(limbs) {
		a.Limbs = append(a.Limbs, uint32(d.next()>>20)|1)
	}
	return a
}

// cells are right ones, of columns below the bound.
func (d *dice) cells(bound, limbs, parts int) []api.Cell {
	var l []api.Cell
	for col := range bound {
		if d.one(parts) {
			l = append(l, api.Cell{Col: col, Val: d.number(limbs)})
		}
	}
	return l
}

// system is a right one of at most so many rows. Some are singular; some have numbers that are wide for few limbs, and some
// such as no right side can hold.
func (d *dice) system(most int) api.System {
	var s api.System
	count, parts, side := d.below(most+1), 1+d.below(2), 2
	if d.one(4) {
		side = 72
	}
	for range count {
		row := api.Row{Mult: limb.Of(int64(1 + d.below(9))), A: d.cells(count, 2, parts), H: d.cells(count, side, 2), S: d.cells(6, side, 3)}
		if d.one(2) {
			row.K = d.number(side)
		}
		s.Rows = append(s.Rows, row)
	}
	return s
}

func (d *dice) limbs() int { return []int{1, 2, 3, 5, 32, 32}[d.below(6)] }

// grid are so many numbers on the grid.
func (d *dice) grid(count int) []int64 {
	var l []int64
	for range count {
		x := []int64{0, 1, edge, int64(d.next() % (edge + 1)), int64(d.below(1000))}[d.below(5)]
		if d.one(2) {
			x = -x
		}
		l = append(l, x)
	}
	return l
}

// ask is one of a system with so many rows; one in some is refused ahead of any need.
func (d *dice) ask(rows int) plan.Ask {
	a := plan.Ask{Prev: d.grid(rows), Src: d.grid(6 + d.below(3))}
	switch d.below(16) {
	case 0:
		a.Prev = append(a.Prev, 0)
	case 1:
		a.Prev = a.Prev[:max(rows-1, 0)]
	case 2:
		a.Src[d.below(6)] = edge + 1
	case 3:
		a.Prev = slices.Repeat([]int64{-edge - 1}, rows)
	case 4:
		a.Src = a.Src[:d.below(3)]
	}
	return a
}

func (d *dice) asks(rows, count int) []plan.Ask {
	var l []plan.Ask
	for range count {
		l = append(l, d.ask(rows))
	}
	return l
}
