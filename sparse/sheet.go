package sparse

import (
	"math/bits"

	"shunt/api"
)

// rise says whether the columns are from 0 on below the bound, each greater than the one ahead.
func rise(cols []int, bound int) bool {
	least := 0
	for _, col := range cols {
		if col < least || col >= bound {
			return false
		}
		least = col + 1
	}
	return true
}

// A sheet is a right pattern on which elimination works: for each row a word, whose bits are the columns that the row has.
// A word has room for api.MaxSize of them.
type sheet []uint64

// sheetOf is p as a sheet; ErrPattern, if p isn't right.
func sheetOf(p [][]int) (sheet, api.Errno) {
	if err := Check(p); err != api.OK {
		return nil, err
	}
	s := make(sheet, len(p))
	for row, cols := range p {
		for _, col := range cols {
			s[row] |= bit(col)
		}
	}
	return s, api.OK
}

func bit(col int) uint64 { return 1 << col }

// has says whether the place is in s; row and col may be any.
func (s sheet) has(row, col int) bool {
	inside := row >= 0 && row < len(s) && col >= 0 && col < len(s)
	return inside && s[row]&bit(col) != 0
}

// heights are for each column how many rows have it.
func (s sheet) heights() []int {
	count := make([]int, len(s))
	for _, cols := range s {
		for col := range count {
			if cols&bit(col) != 0 {
				count[col]++
			}
		}
	}
	return count
}

// cost is that of a place of this row in a column that so many rows have.
func (s sheet) cost(row, height int) int {
	return (bits.OnesCount64(s[row]) - 1) * (height - 1)
}

// best is the best place; false, if no place is in s. A later place has to cost less, for of equal ones the first is the best.
func (s sheet) best() (row, col int, there bool) {
	least := 0
	heights := s.heights()
	for i := range s {
		for j, height := range heights {
			if !s.has(i, j) {
				continue
			}
			if cost := s.cost(i, height); !there || cost < least {
				row, col, there, least = i, j, true, cost
			}
		}
	}
	return row, col, there
}

// eliminate eliminates a place that is in s, and tells how many places came in by it.
func (s sheet) eliminate(row, col int) int {
	cols := s[row]
	s[row] = 0
	fill := 0
	for i, own := range s {
		if own&bit(col) == 0 {
			continue
		}
		fill += bits.OnesCount64(cols &^ own)
		s[i] = (own | cols) &^ bit(col)
	}
	return fill
}

// pattern is s as lists, in new memory.
func (s sheet) pattern() [][]int {
	var p [][]int
	for _, word := range s {
		var cols []int
		for col := range s {
			if word&bit(col) != 0 {
				cols = append(cols, col)
			}
		}
		p = append(p, cols)
	}
	return p
}
