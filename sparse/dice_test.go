package sparse_test

import (
	"slices"

	"shunt/api"
	"shunt/limb"
)

// dice is a row of numbers that is the same at every run.
type dice uint64

func (d *dice) next() uint64 {
	*d ^= *d << 13
	*d ^= *d >> 7
	*d ^= *d << 17
	return uint64(*d)
}

func (d *dice) below(n int) int { return int(d.next() >> 33 % uint64(n)) }

// one is one in so many.
func (d *dice) one(n int) bool { return d.below(n) == 0 }

// pattern is a right one of so many rows: each place is in it once in so many times.
func (d *dice) pattern(rows, parts int) [][]int {
	p := make([][]int, rows)
	for row := range p {
		for col := range rows {
			if d.one(parts) {
				p[row] = append(p[row], col)
			}
		}
	}
	return p
}

// some is a right pattern of so many rows at most, thin or full.
func (d *dice) some(most int) [][]int {
	return d.pattern(d.below(most+1), 1+d.below(12))
}

// order is one that fits p, of any places that are in what is left, until nothing is left or the dice say so.
func (d *dice) order(p [][]int) (rows, cols []int) {
	for s := placesOf(p); len(s) > 0 && !d.one(20); {
		l := s.list()
		at := l[d.below(len(l))]
		rows, cols = append(rows, at.row), append(cols, at.col)
		s, _ = s.without(at)
	}
	return rows, cols
}

// bend makes an order another one, that may not fit.
func (d *dice) bend(rows, cols []int, size int) {
	if len(rows) == 0 {
		return
	}
	i, j := d.below(len(rows)), d.below(len(rows))
	switch d.below(4) {
	case 0:
		rows[i] = d.below(size+2) - 1
	case 1:
		cols[i] = d.below(size+2) - 1
	case 2:
		rows[i], rows[j] = rows[j], rows[i]
	case 3:
		rows[i], cols[i] = rows[j], cols[j]
	}
}

// shuffled are the numbers from 0 on, so many, in any order.
func (d *dice) shuffled(count int) []int {
	var l []int
	for i := range count {
		l = slices.Insert(l, d.below(i+1), i)
	}
	return l
}

// tree is a pattern of so many rows whose places form a tree of all rows and all columns: each point but the first is joined
// to one ahead of it that is of the other kind. A reach of 1 makes long trees, a great one wide trees.
func (d *dice) tree(count, reach int) [][]int {
	s := places{}
	rows, cols := d.shuffled(count), d.shuffled(count)
	laidRows, laidCols := rows[:1], cols[:0]
	for len(laidRows)+len(laidCols) < 2*count {
		row := d.one(2) && len(laidCols) > 0
		if len(laidRows) == count || (len(laidCols) < count && !row) {
			laidCols = cols[:len(laidCols)+1]
			s[place{laidRows[d.late(len(laidRows), reach)], laidCols[len(laidCols)-1]}] = true
		} else {
			laidRows = rows[:len(laidRows)+1]
			s[place{laidRows[len(laidRows)-1], laidCols[d.late(len(laidCols), reach)]}] = true
		}
	}
	return s.pattern(count)
}

// late is one of the last numbers below n, at most reach ahead of it.
func (d *dice) late(n, reach int) int { return n - 1 - d.below(min(n, reach)) }

// whole is a whole number other than 0.
func (d *dice) whole() api.Int {
	a := limb.Of(int64(1 + d.below(1<<20)))
	a.Neg = d.one(2)
	return a
}

// cells are right ones with these columns.
func (d *dice) cells(cols []int) []api.Cell {
	var l []api.Cell
	for _, col := range cols {
		l = append(l, api.Cell{Col: col, Val: d.whole()})
	}
	return l
}

// system is a right one whose rows' A have the columns of p. H and S have others.
func (d *dice) system(p [][]int) api.System {
	var s api.System
	other := d.pattern(len(p), 3)
	for i, cols := range p {
		row := api.Row{Mult: limb.Of(int64(1 + d.below(9))), A: d.cells(cols), H: d.cells(other[i])}
		if d.one(2) {
			row.S, row.K = d.cells([]int{d.below(32), 32 + d.below(32)}), d.whole()
		}
		s.Rows = append(s.Rows, row)
	}
	return s
}
