package system

import (
	"slices"

	"shunt/api"
	"shunt/rat"
)

// rightRow says whether row is one of a right system of so many rows.
func rightRow(row api.Row, count int) bool {
	return isWhole(row.Mult) && !row.Mult.Neg && !isNought(row.Mult) && isWhole(row.K) &&
		rightCells(row.A, count) && rightCells(row.H, count) && rightCells(row.S, api.MaxDevs)
}

// rightCells says whether the columns are from 0 on below the bound and rise, and the numbers are right ones other than 0.
func rightCells(cells []api.Cell, bound int) bool {
	least := 0
	for _, c := range cells {
		if c.Col < least || c.Col >= bound || isNought(c.Val) || !isWhole(c.Val) {
			return false
		}
		least = c.Col + 1
	}
	return true
}

// isWhole says whether a is a right whole number. Over 1 each of them is a right fraction, which layer 2 knows.
func isWhole(a api.Int) bool {
	return rat.Check(api.Rat{Num: a, Den: api.Int{Limbs: []uint32{1}}}) == api.OK
}

func isNought(a api.Int) bool { return len(a.Limbs) == 0 }

// reaches says whether src has a place for each column of the rows' S. The last cell has the greatest one.
func reaches(src []int64, rows []api.Row) bool {
	return !slices.ContainsFunc(rows, func(row api.Row) bool {
		last := len(row.S) - 1
		return last >= 0 && row.S[last].Col >= len(src)
	})
}

func onGrid(list []int64) bool {
	return !slices.ContainsFunc(list, func(x int64) bool { return x < -api.MaxGrid || x > api.MaxGrid })
}
