package bareiss_test

import (
	"slices"
	"testing"

	"shunt/api"
	"shunt/bareiss"
	"shunt/limb"
)

// What the chapter says, asked another way: each number behind a stage is a determinant of the matrix as it was handed in,
// of the pivots' rows and columns so far with the number's own behind them; and X is what Cramer's rule says.

// det is the determinant, row by row.
func det(m matrix) api.Int {
	if len(m) == 0 {
		return limb.Of(1)
	}
	var sum api.Int
	for col, a := range m[0] {
		if nought(a) {
			continue
		}
		rest := make(matrix, 0, len(m)-1)
		for _, row := range m[1:] {
			rest = append(rest, slices.Concat(row[:col], row[col+1:]))
		}
		share := times(a, det(rest))
		if col%2 == 1 {
			share = opposite(share)
		}
		sum = plus(sum, share)
	}
	return sum
}

// part is the matrix of these rows and columns, in this order.
func (m matrix) part(rows, cols []int) matrix {
	var out matrix
	for _, i := range rows {
		var row []api.Int
		for _, j := range cols {
			row = append(row, m[i][j])
		}
		out = append(out, row)
	}
	return out
}

// beside is the matrix with b as one more column.
func (m matrix) beside(b []api.Int) matrix {
	var out matrix
	for i, row := range m {
		out = append(out, append(slices.Clone(row), b[i]))
	}
	return out
}

// A meaning is what New is to answer.
type meaning struct {
	m          matrix
	limbs      int
	rows, cols []int
	pivots     []api.Int
	err        api.Errno
}

// left are the numbers from 0 on below count that aren't taken.
func left(count int, taken []int) []int {
	return slices.DeleteFunc(upTo(count), func(n int) bool { return slices.Contains(taken, n) })
}

// now is the number that stands at a place behind the stages so far, in the column behind the last one if it is b's.
func (x meaning) now(m matrix, row, col int) api.Int {
	return det(m.part(append(slices.Clone(x.rows), row), append(slices.Clone(x.cols), col)))
}

// numbers are those that are left; noughts where nothing is.
func (x meaning) numbers() matrix {
	out := square(len(x.m), func(row, col int) api.Int { return api.Int{} })
	for _, row := range left(len(x.m), x.rows) {
		for _, col := range left(len(x.m), x.cols) {
			out[row][col] = x.now(x.m, row, col)
		}
	}
	return out
}

func tooWide(l []api.Int, limbs int) bool {
	return slices.ContainsFunc(l, func(a api.Int) bool { return len(a.Limbs) > limbs })
}

// best is the place of the least cost, of these that of the least row, of these that of the least column.
func (m matrix) best() (row, col int, there bool) {
	least := 0
	for i := range m {
		for j := range m {
			if nought(m[i][j]) {
				continue
			}
			cost := (count(m[i]) - 1) * (count(m.column(j)) - 1)
			if !there || cost < least {
				row, col, there, least = i, j, true, cost
			}
		}
	}
	return row, col, there
}

// count is how many are not 0.
func count(l []api.Int) int {
	return len(slices.DeleteFunc(slices.Clone(l), nought))
}

func factorMeant(m matrix, limbs int) meaning {
	x := meaning{m: m, limbs: limbs}
	for {
		now := x.numbers()
		if slices.ContainsFunc(now, func(row []api.Int) bool { return tooWide(row, limbs) }) {
			x.err = api.ErrWide
			return x
		}
		if len(x.rows) == len(m) {
			return x
		}
		row, col, there := now.best()
		if !there {
			x.err = api.ErrSingular
			return x
		}
		x.rows, x.cols, x.pivots = append(x.rows, row), append(x.cols, col), append(x.pivots, now[row][col])
	}
}

// solveMeant is what Solve is to answer of a matrix that New takes.
func (x meaning) solveMeant(b []api.Int) (api.Solution, api.Errno) {
	n := len(x.m)
	full := x.m.beside(b)
	for stages := range n + 1 {
		part := meaning{rows: x.rows[:stages], cols: x.cols[:stages]}
		for _, row := range left(n, part.rows) {
			if len(part.now(full, row, n).Limbs) > x.limbs {
				return api.Solution{}, api.ErrWide
			}
		}
	}
	d := det(x.m)
	out := api.Solution{D: size(d)}
	for col := range n {
		cols := upTo(n)
		cols[col] = n
		out.X = append(out.X, signed(det(full.part(upTo(n), cols)), d))
	}
	if tooWide(out.X, x.limbs) {
		return api.Solution{}, api.ErrWide
	}
	return out, api.OK
}

// asMeant fails unless New answers of m, and Solve of each of the sides, as the chapter's words say. It tells both errors.
func asMeant(t *testing.T, m matrix, limbs int, sides ...[]api.Int) (ofNew api.Errno, ofSolve []api.Errno) {
	t.Helper()
	x := factorMeant(m, limbs)
	f, pivots, err := bareiss.New(m.cells(), limbs)
	if err != x.err || pivots != len(x.pivots) || (f != nil) != (x.err == api.OK) {
		t.Fatalf("%v: New with %d limbs: %t, %d pivots, error %d, not error %d behind %d", m, limbs, f != nil, pivots, err, x.err, len(x.pivots))
	}
	if f == nil {
		return err, nil
	}
	factorIs(t, f, x.rows, x.cols, x.pivots, det(m))
	for _, b := range sides {
		want, err := x.solveMeant(b)
		if err == api.OK {
			solves(t, f, b, want.X, want.D)
		} else {
			refusesSide(t, f, b, err)
		}
		ofSolve = append(ofSolve, err)
	}
	if t.Failed() {
		t.Fatalf("%v with %d limbs", m, limbs)
	}
	return api.OK, ofSolve
}
