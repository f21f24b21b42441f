package bareiss

import (
	"slices"

	"shunt/api"
	"shunt/limb"
	"shunt/sparse"
)

// A stage is a pivot, and what a right side needs of it: the pivot's number of the stage ahead, the row's numbers in the
// columns of later stages, by column, and the column's numbers in the rows of later stages, by row; all as they stood when it
// was the pivot.
type stage struct {
	row, col     int
	pivot, ahead api.Int
	across, down numbers
}

// factor goes through the stages until all rows are taken, or one stage is refused.
func (f *Factor) factor(left table) api.Errno {
	if left.wide(f.limbs) {
		return api.ErrWide
	}
	for range left {
		row, col, there, _ := sparse.Best(left.pattern()) // a table's pattern is right
		if !there {
			return api.ErrSingular
		}
		s := left.take(row, col, f.last())
		f.stages = append(f.stages, s)
		left.reduce(s)
		if left.wide(f.limbs) {
			return api.ErrWide
		}
	}
	return api.OK
}

// last is the number of the last pivot so far, 1 if there is none, in new memory.
func (f *Factor) last() api.Int {
	if len(f.stages) == 0 {
		return limb.Of(1)
	}
	return duplicate(f.stages[len(f.stages)-1].pivot)
}

// step is what the number a becomes in the stage, where x stands in its row and the pivot's column, and y in the pivot's row
// and its column.
func (s stage) step(a, x, y api.Int) api.Int {
	return over(minus(times(s.pivot, a), times(x, y)), s.ahead)
}

// behind is what a row that is left becomes in the stage, where x stood in the pivot's column.
func (s stage) behind(own numbers, x api.Int) numbers {
	next := numbers{}
	for col, a := range own {
		next.put(col, s.step(a, x, s.across[col]))
	}
	if isNought(x) {
		return next
	}
	for col, y := range s.across {
		if _, done := own[col]; !done {
			next.put(col, s.step(api.Int{}, x, y))
		}
	}
	return next
}

// forward does to b what the stages did to the matrix: each number is told as it stood when its row was the pivot's.
func (f *Factor) forward(b []api.Int) ([]api.Int, api.Errno) {
	side := slices.Clone(b)
	if wide(side, f.limbs) {
		return nil, api.ErrWide
	}
	for k, s := range f.stages {
		for _, later := range f.stages[k+1:] {
			i := later.row
			side[i] = s.step(side[i], s.down[i], side[s.row])
		}
		if wide(side, f.limbs) {
			return nil, api.ErrWide
		}
	}
	return side, api.OK
}

// back tells X, from the last stage back, as it is ahead of a change of signs.
func (f *Factor) back(side []api.Int) ([]api.Int, api.Errno) {
	d := f.last()
	x := make([]api.Int, len(side))
	for _, s := range slices.Backward(f.stages) {
		rest := times(d, side[s.row])
		for col, a := range s.across {
			rest = minus(rest, times(a, x[col]))
		}
		x[s.col] = over(rest, s.pivot)
		if !limb.Fits(x[s.col], f.limbs) {
			return nil, api.ErrWide
		}
	}
	return x, api.OK
}

// odd says whether a list, of numbers that stand in it once each, is put in order by an odd number of changes of two.
func odd(list []int) bool {
	is := false
	for k, n := range list {
		for _, ahead := range list[:k] {
			if ahead > n {
				is = !is
			}
		}
	}
	return is
}
