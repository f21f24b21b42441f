package sparse_test

import (
	"testing"

	"shunt/api"
	"shunt/sparse"
)

// The chapter's examples, one by one.

func TestExamples(t *testing.T) {
	p := of("0 1 2 / 0 1 / 0 2")
	costs(t, p, 0, 0, 4)
	costs(t, p, 1, 1, 1)
	refusesPlace(t, p, 1, 2, api.ErrArg)
	bestIs(t, p, 1, 1)
	leaves(t, p, 1, 1, "0 2 / - / 0 2")
	leaves(t, p, 0, 0, "- / 1 2 / 1 2")
	orderIs(t, p, []int{1, 0, 2}, []int{1, 0, 2})
	fills(t, p, []int{1, 0, 2}, []int{1, 0, 2}, 0)
	fills(t, p, []int{0, 1, 2}, []int{0, 1, 2}, 2)
	refusesFill(t, p, []int{0, 0}, []int{0, 1}, api.ErrArg)
	refusesFill(t, p, []int{0}, nil, api.ErrSize)
	checks(t, [][]int{{1, 0}}, api.ErrPattern)
	checks(t, [][]int{{1, 0}, nil}, api.ErrPattern)
	checks(t, make([][]int, 49), api.ErrPattern)
}

// The errors' numbers stand in the document.
func TestNumbersOfErrors(t *testing.T) {
	checks(t, of("0"), 0)
	checks(t, of("1"), 130)
	if _, err := sparse.Of(api.System{Rows: make([]api.Row, 1)}); err != 130 {
		t.Error(err)
	}
	refusesPlace(t, of("1"), 0, 0, 130)
	refusesPlace(t, of("0"), 0, 1, 1)
	refusesFill(t, of("0"), []int{0}, nil, 5)
	refusesFill(t, of("0"), []int{1}, []int{0}, 1)
}
