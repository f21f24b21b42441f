package sparse_test

import (
	"slices"
	"testing"

	"shunt/api"
	"shunt/sparse"
)

func TestNoRowAtAll(t *testing.T) {
	for _, p := range [][][]int{nil, {}} {
		checks(t, p, api.OK)
		noBest(t, p)
		orderIs(t, p, nil, nil)
		fills(t, p, nil, nil, 0)
		fills(t, p, []int{}, nil, 0)
		refusesPlace(t, p, 0, 0, api.ErrArg)
		refusesFill(t, p, []int{0}, []int{0}, api.ErrArg)
		refusesFill(t, p, []int{0}, nil, api.ErrSize)
	}
}

func TestRowsWithoutAColumn(t *testing.T) {
	for _, count := range []int{1, 2, 3, 47, 48} {
		for _, p := range [][][]int{make([][]int, count), slices.Repeat([][]int{{}}, count)} {
			checks(t, p, api.OK)
			noBest(t, p)
			orderIs(t, p, nil, nil)
			fills(t, p, nil, nil, 0)
			refusesPlace(t, p, 0, 0, api.ErrArg)
			refusesFill(t, p, []int{0}, []int{0}, api.ErrArg)
		}
	}
	p := of("- / 2 / -")
	costs(t, p, 1, 2, 0)
	bestIs(t, p, 1, 2)
	leaves(t, p, 1, 2, "- / - / -")
	orderIs(t, p, []int{1}, []int{2})
	fills(t, p, []int{1}, []int{2}, 0)
	p = of("- / 0 2 / 0 2")
	costs(t, p, 1, 0, 1)
	bestIs(t, p, 1, 0)
	leaves(t, p, 2, 2, "- / 0 / -")
	orderIs(t, p, []int{1, 2}, []int{0, 2})
}

func TestOneRow(t *testing.T) {
	p := of("0")
	costs(t, p, 0, 0, 0)
	bestIs(t, p, 0, 0)
	leaves(t, p, 0, 0, "-")
	orderIs(t, p, []int{0}, []int{0})
	fills(t, p, []int{0}, []int{0}, 0)
	refusesFill(t, p, []int{0, 0}, []int{0, 0}, api.ErrArg)
}

func TestFullPatterns(t *testing.T) {
	for _, count := range []int{1, 2, 3, 10, 31, 32, 33, 47, 48} {
		p := full(count)
		checks(t, p, api.OK)
		last := count - 1
		for _, at := range []place{{0, 0}, {0, last}, {last, 0}, {last, last}, {count / 2, count / 3}} {
			costs(t, p, at.row, at.col, last*last)
		}
		bestIs(t, p, 0, 0)
		orderIs(t, p, upTo(count), upTo(count))
		fills(t, p, upTo(count), upTo(count), 0)
		back := upTo(count)
		slices.Reverse(back)
		fills(t, p, upTo(count), back, 0)
		fills(t, p, back, upTo(count), 0)
		left := full(count)
		for row := range left {
			left[row] = slices.DeleteFunc(left[row], func(col int) bool { return col == 0 || row == last })
		}
		leaves(t, p, last, 0, text(left))
	}
}

func TestFortyEightRowsAndNoMore(t *testing.T) {
	p := arrow(48)
	checks(t, p, api.OK)
	costs(t, p, 0, 0, 47*47)
	costs(t, p, 0, 47, 47)
	costs(t, p, 47, 0, 47)
	costs(t, p, 47, 47, 1)
	bestIs(t, p, 1, 1)
	fills(t, p, upTo(48), upTo(48), 47*46)
	orderIs(t, p, append(upTo(47)[1:], 0, 47), append(upTo(47)[1:], 0, 47))
	fills(t, p, append(upTo(48)[1:], 0), append(upTo(48)[1:], 0), 0)
	refusesPlace(t, p, 48, 0, api.ErrArg)
	refusesPlace(t, p, 0, 48, api.ErrArg)
	refusesFill(t, p, append(upTo(48), 48), append(upTo(48), 48), api.ErrArg)
	for _, more := range [][]int{nil, {}, {0}, {48}} {
		refusesPattern(t, append(arrow(48), more))
	}
	for _, count := range []int{49, 50, 64, 65, 1000} {
		refusesPattern(t, make([][]int, count))
		refusesPattern(t, full(count))
	}
	refusesPattern(t, make([][]int, 1<<20))
}

// All columns of one row, and one column of all rows, of the greatest size.
func TestTheLastColumn(t *testing.T) {
	p := make([][]int, 48)
	for row := range p {
		p[row] = []int{47}
	}
	costs(t, p, 5, 47, 0)
	bestIs(t, p, 0, 47)
	orderIs(t, p, []int{0}, []int{47})
	fills(t, p, []int{47}, []int{47}, 0)
	left, err := sparse.Eliminate(p, 20, 47)
	if err != api.OK || text(left) != text(make([][]int, 48)) {
		t.Error(left, err)
	}
	p = make([][]int, 48)
	p[47] = upTo(48)
	costs(t, p, 47, 47, 0)
	bestIs(t, p, 47, 0)
	orderIs(t, p, []int{47}, []int{0})
	fills(t, p, []int{47}, []int{47}, 0)
}

// Of places of equal cost the one of the least row is the best, of these that of the least column.
func TestPlacesOfEqualCost(t *testing.T) {
	bestIs(t, of("0 1 / 0 1"), 0, 0)
	bestIs(t, of("1 / 0"), 0, 1)
	orderIs(t, of("1 / 0"), []int{0, 1}, []int{1, 0})
	bestIs(t, of("2 / 1 / 0"), 0, 2)
	bestIs(t, of("- / 1 2 / 1 2"), 1, 1)
	bestIs(t, of("1 2 / 0 / 0"), 0, 1)
	// The least column has no say ahead of the least row, nor has either ahead of the least cost.
	bestIs(t, of("0 1 2 / 0 1 2 / 2"), 2, 2)
	bestIs(t, of("0 1 2 / 0 / 2"), 0, 1)
	bestIs(t, of("0 1 2 / 0 1 2 / 0"), 2, 0)
	bestIs(t, of("0 1 / 0 1 / 2"), 2, 2)
	bestIs(t, of("0 1 3 / 0 1 3 / 2 3 / 2 3"), 2, 2)
	bestIs(t, of("0 1 2 / 0 1 2 / 1 2 / 0 1 3"), 3, 3)
	orderIs(t, of("0 1 / 1 2 / 0 2"), []int{0, 1, 2}, []int{0, 1, 2})
	orderIs(t, of("1 2 / 0 2 / 0 1"), []int{0, 1, 2}, []int{1, 0, 2})
	orderIs(t, of("0 2 / 0 1 2 / 1"), []int{2, 0, 1}, []int{1, 0, 2})
}

// A row of one column, or a column of one row, costs nothing, however long the other is.
func TestPlacesThatCostNothing(t *testing.T) {
	p := of("0 1 2 3 / 0 / 0 1 / 0 1 2")
	costs(t, p, 1, 0, 0)
	costs(t, p, 0, 3, 0)
	costs(t, p, 0, 0, 9)
	costs(t, p, 2, 1, 2)
	bestIs(t, p, 0, 3)
	leaves(t, p, 0, 3, "- / 0 / 0 1 / 0 1 2")
	leaves(t, p, 1, 0, "1 2 3 / - / 1 / 1 2")
	fills(t, p, []int{0, 1, 2, 3}, []int{3, 0, 1, 2}, 0)
}

func TestWhatAnEliminationLeaves(t *testing.T) {
	p := of("1 3 / 0 1 / 1 2 3 / 2")
	leaves(t, p, 0, 1, "- / 0 3 / 2 3 / 2")
	leaves(t, p, 0, 3, "- / 0 1 / 1 2 / 2")
	leaves(t, p, 1, 0, "1 3 / - / 1 2 3 / 2")
	leaves(t, p, 1, 1, "0 3 / - / 0 2 3 / 2")
	leaves(t, p, 2, 2, "1 3 / 0 1 / - / 1 3")
	leaves(t, p, 2, 1, "2 3 / 0 2 3 / - / 2")
	fills(t, p, []int{0}, []int{1}, 1)
	fills(t, p, []int{0}, []int{3}, 0)
	fills(t, p, []int{1}, []int{1}, 2)
	fills(t, p, []int{2}, []int{2}, 2)
	fills(t, p, []int{2}, []int{1}, 3)
	fills(t, p, []int{2, 0}, []int{1, 2}, 4)
}

// A place that came in once, is taken away, and comes in again is counted twice.
func TestPlacesThatComeInByAllEliminations(t *testing.T) {
	p := of("0 1 / 0 2 / 2 3 / 0 3")
	leaves(t, p, 0, 0, "- / 1 2 / 2 3 / 1 3")
	fills(t, p, []int{0}, []int{0}, 2)
	fills(t, p, []int{0, 1}, []int{0, 1}, 3)
	fills(t, p, []int{0, 1}, []int{0, 2}, 3)
	fills(t, p, []int{0, 1, 2, 3}, []int{0, 2, 1, 3}, 3)
}

func TestOrdersOfNoPlace(t *testing.T) {
	for _, p := range [][][]int{nil, of("-"), of("0"), of("0 1 2 / 0 1 / 0 2"), full(48), arrow(48)} {
		fills(t, p, nil, nil, 0)
		fills(t, p, []int{}, []int{}, 0)
		fills(t, p, nil, []int{}, 0)
	}
}

func TestOrdersThatLeaveSomething(t *testing.T) {
	p := of("0 1 2 / 0 1 / 0 2")
	fills(t, p, []int{0}, []int{0}, 2)
	fills(t, p, []int{1}, []int{1}, 0)
	fills(t, p, []int{1, 2}, []int{1, 2}, 0)
	fills(t, p, []int{2}, []int{0}, 1)
	fills(t, arrow(48), []int{0}, []int{0}, 47*46)
	fills(t, arrow(48), []int{9}, []int{0}, 46)
	fills(t, full(48), []int{7, 3}, []int{9, 47}, 0)
}

// Orders that end ahead of as many places as there are rows leave nothing where the pattern has no more in it.
func TestShortOrders(t *testing.T) {
	orderIs(t, of("0 1 2 / - / -"), []int{0}, []int{0})
	orderIs(t, of("0 / 0 / 0"), []int{0}, []int{0})
	orderIs(t, of("0 1 2 / 0 / 0"), []int{0, 1}, []int{1, 0})
	orderIs(t, of("0 / - / 2"), []int{0, 2}, []int{0, 2})
}
