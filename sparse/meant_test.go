package sparse_test

import (
	"cmp"
	"slices"
)

// What the chapter says of patterns, asked another way: of sets of places.

type place struct{ row, col int }

type places map[place]bool

func placesOf(p [][]int) places {
	s := places{}
	for row, cols := range p {
		for _, col := range cols {
			s[place{row, col}] = true
		}
	}
	return s
}

// pattern is the set as a pattern of so many rows.
func (s places) pattern(count int) [][]int {
	p := make([][]int, count)
	for _, x := range s.list() {
		p[x.row] = append(p[x.row], x.col)
	}
	return p
}

// list are the places by rows, and in each by columns.
func (s places) list() []place {
	var l []place
	for x := range s {
		l = append(l, x)
	}
	slices.SortFunc(l, func(a, b place) int { return cmp.Or(cmp.Compare(a.row, b.row), cmp.Compare(a.col, b.col)) })
	return l
}

func (s places) cost(at place) int {
	beside, above := 0, 0
	for x := range s {
		if x.row == at.row && x.col != at.col {
			beside++
		}
		if x.col == at.col && x.row != at.row {
			above++
		}
	}
	return beside * above
}

func (s places) best() (place, bool) {
	l := s.list()
	if len(l) == 0 {
		return place{}, false
	}
	slices.SortStableFunc(l, func(a, b place) int { return cmp.Compare(s.cost(a), s.cost(b)) })
	return l[0], true
}

// without is what is left behind the place, which is in s, and how many places came in.
func (s places) without(at place) (places, int) {
	more := places{}
	for x := range s {
		more[x] = true
	}
	for x := range s {
		for y := range s {
			if x.col == at.col && x.row != at.row && y.row == at.row {
				more[place{x.row, y.col}] = true
			}
		}
	}
	came := len(more) - len(s)
	left := places{}
	for x := range more {
		if x.row != at.row && x.col != at.col {
			left[x] = true
		}
	}
	return left, came
}

// order is the one that takes the best place again and again.
func (s places) order() (rows, cols []int) {
	for {
		at, there := s.best()
		if !there {
			return rows, cols
		}
		rows, cols = append(rows, at.row), append(cols, at.col)
		s, _ = s.without(at)
	}
}

// fill is that of an order of lists that are as long; false, if it doesn't fit.
func (s places) fill(rows, cols []int) (int, bool) {
	fill := 0
	for i := range rows {
		at := place{rows[i], cols[i]}
		if !s[at] {
			return 0, false
		}
		left, came := s.without(at)
		s, fill = left, fill+came
	}
	return fill, true
}

// turned is p turned over its diagonal.
func turned(p [][]int) [][]int {
	s := places{}
	for x := range placesOf(p) {
		s[place{x.col, x.row}] = true
	}
	return s.pattern(len(p))
}
