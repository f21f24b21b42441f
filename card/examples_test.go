package card_test

import (
	"testing"

	"shunt/api"
)

// The chapter's table, row by row.

func TestExamplesOfCards(t *testing.T) {
	reads(t, "r1 a 0 4.7k", api.Card{Name: "r1", Nodes: []string{"a", "0"}, Value: n(47, 2)})
	five := api.Card{Name: "v1", Nodes: []string{"in", "0"}, Wave: api.Wave{Kind: api.WaveDC, Vals: list(n(5, 0))}}
	reads(t, "v1 in 0 5", five)
	reads(t, "v1 in 0 dc 5", five)
	reads(t, "v1 a b pulse 0 5 0 1 2 1 8", api.Card{Name: "v1", Nodes: []string{"a", "b"}, Wave: api.Wave{
		Kind: api.WavePulse, Vals: list(n(0, 0), n(5, 0)), Steps: []int{0, 1, 2, 1, 8},
	}})
	reads(t, "v1 a b pwl 0 0 4 1", api.Card{Name: "v1", Nodes: []string{"a", "b"}, Wave: api.Wave{
		Kind: api.WavePwl, Vals: list(n(0, 0), n(1, 0)), Steps: []int{0, 4},
	}})
	reads(t, "f1 a b v1 2", api.Card{Name: "f1", Nodes: []string{"a", "b"}, Ref: "v1", Value: n(2, 0)})
	refuses(t, "f1 a b r1 2", api.ErrName)
	reads(t, "x1 a b amp", api.Card{Name: "x1", Nodes: []string{"a", "b"}, Ref: "amp"})
	writes(t, api.Card{Name: "r1", Nodes: []string{"a", "0"}, Value: n(47, 2)}, "r1 a 0 4700")
}

func TestExamplesOfErrors(t *testing.T) {
	refuses(t, "r1 a 0 0", api.ErrZero)
	refuses(t, "r1 a 0", api.ErrCard)
	refuses(t, "q1 a b 1", api.ErrCard)
	refuses(t, "r1 A 0 1", api.ErrName)
	refuses(t, "v1 a b pulse 0 5 0 1 2 1 3", api.ErrWave)
	refuses(t, "v1 a b pwl 00 0", api.ErrText)
	refuses(t, "v1 a b pwl 0 1x", api.ErrText)
}

func TestExamplesOfModels(t *testing.T) {
	readsModel(t, ".model d1 d 1u 0.7 100m", api.Model{Name: "d1", Kind: 'd', G: list(n(1, -6), n(1, -1)), V: list(n(7, -1))})
	refusesModel(t, ".model d1 d 1 2 3 1 4", api.ErrModel)
}

// The errors' numbers stand in the document.
func TestNumbersOfErrors(t *testing.T) {
	refuses(t, "r1 a 0", 70)
	refuses(t, "r1 A 0 1", 71)
	refuses(t, "r1 a 0 1x", 3)
	refuses(t, "r1 a 0 1e10", 30)
	refuses(t, "r1 a 0 0", 11)
	refuses(t, "v1 a b pwl 1 0 1 0", 40)
	refusesModel(t, ".model d1 d 1 1 1 1 1", 50)
}
