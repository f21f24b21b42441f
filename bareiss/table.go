package bareiss

import (
	"maps"
	"slices"

	"shunt/api"
)

// Numbers are those of a row that are not 0, by column (or those of a column, by row).
type numbers map[int]api.Int

// put puts a number at its place; a nought has none.
func (n numbers) put(at int, a api.Int) {
	if !isNought(a) {
		n[at] = a
	}
}

// A table is what factoring works on: for each row the numbers in the columns that are left, none of a row that is left no
// more.
type table []numbers

// tableOf is a right matrix as a table, in new memory.
func tableOf(rows [][]api.Cell) table {
	var t table
	for _, cells := range rows {
		own := numbers{}
		for _, c := range cells {
			own[c.Col] = duplicate(c.Val)
		}
		t = append(t, own)
	}
	return t
}

// pattern is that of the numbers that are left.
func (t table) pattern() [][]int {
	var p [][]int
	for _, own := range t {
		p = append(p, slices.Sorted(maps.Keys(own)))
	}
	return p
}

// wide says whether a number that is left has more limbs.
func (t table) wide(limbs int) bool {
	return slices.ContainsFunc(t, func(own numbers) bool {
		return wide(slices.Collect(maps.Values(own)), limbs)
	})
}

// take takes the pivot's row and column out of the table, into a stage; ahead is the pivot's number of the stage ahead.
func (t table) take(row, col int, ahead api.Int) stage {
	s := stage{row: row, col: col, pivot: t[row][col], ahead: ahead, across: t[row], down: numbers{}}
	delete(s.across, col)
	t[row] = nil
	for i, own := range t {
		s.down.put(i, own[col])
		delete(own, col)
	}
	return s
}

// reduce makes of all that is left what it becomes in the stage.
func (t table) reduce(s stage) {
	for i, own := range t {
		t[i] = s.behind(own, s.down[i])
	}
}
