package bareiss_test

import (
	"testing"

	"shunt/api"
	"shunt/bareiss"
	"shunt/limb"
)

// The chapter's examples, one by one.

func TestExampleOfTwoRows(t *testing.T) {
	f := factored(t, of("2 1 / 1 3"), 32)
	factorIs(t, f, []int{0, 1}, []int{0, 1}, list("2 5"), limb.Of(5))
	solves(t, f, list("5 10"), list("5 15"), limb.Of(5))
}

func TestExampleOfDeterminantBelowNought(t *testing.T) {
	f := factored(t, of("0 1 / 1 0"), 32)
	factorIs(t, f, []int{0, 1}, []int{1, 0}, list("1 1"), limb.Of(-1))
	solves(t, f, list("3 4"), list("4 3"), limb.Of(1))
}

func TestExampleOfNoRows(t *testing.T) {
	f := factored(t, nil, 32)
	factorIs(t, f, nil, nil, nil, limb.Of(1))
	solves(t, f, nil, nil, limb.Of(1))
}

func TestExamplesRefused(t *testing.T) {
	refuses(t, of("1 2 / 2 4").cells(), 32, 1, api.ErrSingular)
	refuses(t, of("4294967296").cells(), 1, 0, api.ErrWide)
	refuses(t, of("2 1 / 1 3").cells(), 0, 0, api.ErrArg)
}

func TestExamplesNearOneLimb(t *testing.T) {
	f := factored(t, of("65536 1 / 1 65536"), 1)
	factorIs(t, f, []int{0, 1}, []int{0, 1}, list("65536 4294967295"), limb.Of(1<<32-1))
	refuses(t, of("65537 1 / 1 65536").cells(), 1, 1, api.ErrWide)
}

// The errors' numbers stand in the document.
func TestNumbersOfErrors(t *testing.T) {
	refuses(t, [][]api.Cell{{{Col: 1, Val: limb.Of(1)}}}, 32, 0, 130)
	refuses(t, nil, 0, 0, 1)
	refuses(t, of("2^32").cells(), 1, 0, 13)
	refuses(t, of("0").cells(), 1, 0, 140)
	f, _, err := bareiss.New(of("1").cells(), 1)
	if err != 0 {
		t.Fatal(err)
	}
	refusesSide(t, f, nil, 5)
	refusesSide(t, f, []api.Int{{Neg: true}}, 10)
	refusesSide(t, f, list("2^32"), 13)
}
