package plan_test

import (
	"slices"
	"testing"

	"shunt/api"
	"shunt/plan"
)

// The chapter's examples, one by one.

// ofDivider is what the divider's unknowns are at 5 V: 5 V, 10/3 V, -5/3 mA.
const ofDivider = "15000000000000 10000000000000 -5000000000 / 3000"

func fiveVolts() plan.Ask {
	return plan.Ask{Prev: []int64{0, 0, 0}, Src: []int64{5000000000, 0, 0}}
}

func TestExamplesOfOneAskBehindAnother(t *testing.T) {
	p := made(t, divider(), 32)
	solves(t, p, fiveVolts(), ofDivider)
	counted(t, p, 1, 3, 1)
	solves(t, p, fiveVolts(), ofDivider)
	counted(t, p, 1, 3, 2)
	refusesAsk(t, p, plan.Ask{Prev: []int64{0, 0}, Src: []int64{5000000000, 0, 0}}, api.ErrSize)
	counted(t, p, 1, 3, 2)
	got := together(t, p, []plan.Ask{fiveVolts(), fiveVolts(), fiveVolts()}, 2)
	if !slices.Equal(got, []string{ofDivider, ofDivider, ofDivider}) {
		t.Error(got)
	}
	counted(t, p, 1, 3, 5)
}

func TestExamplesRefused(t *testing.T) {
	refuses(t, divider(), 0, api.ErrArg)
	p := made(t, of("a0:1 a1:2 / a0:2 a1:4"), 32)
	for range 2 {
		refusesAsk(t, p, plan.Ask{Prev: []int64{0, 0}}, api.ErrSingular)
		counted(t, p, 1, 1, 0)
	}
}

// The errors' numbers stand in the document.
func TestNumbersOfErrors(t *testing.T) {
	refuses(t, of("a1:1"), 32, 130)
	refuses(t, matrix("1"), 33, 1)
	p := made(t, matrix("1"), 1)
	refusesAsk(t, p, prev(), 5)
	refusesAsk(t, p, prev(edge+1), 4)
	refusesAsk(t, p, prev(1<<32), 13)
	refusesAsk(t, made(t, matrix("2^32"), 1), prev(0), 13)
	refusesAsk(t, made(t, matrix("0"), 1), prev(0), 140)
	refusesTogether(t, p, nil, 17, 1)
	refusesTogether(t, p, make([]plan.Ask, 257), 1, 7)
}
