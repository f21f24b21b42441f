package model_test

import (
	"testing"

	"shunt/api"
	"shunt/model"
)

// The chapter's table, row by row.

func TestExampleParts(t *testing.T) {
	d, s := exampleDiode(), exampleSwitch()
	does(t, d, 0, ratio(1, 1000000), whole(0))
	does(t, d, 1, ratio(1, 10), whole(-69999300))
	does(t, s, 1, whole(1), whole(0))
	partless(t, d, 2, api.ErrSeg)
	partless(t, d, -1, api.ErrSeg)
}

func TestExampleSides(t *testing.T) {
	d := exampleDiode()
	lies(t, d, 0, whole(700000000), 0)
	lies(t, d, 1, whole(700000000), 0)
	lies(t, d, 0, whole(700000001), 1)
	lies(t, d, 1, whole(0), -1)
}

func TestExampleFinds(t *testing.T) {
	finds(t, exampleDiode(), whole(700000000), 0)
	finds(t, exampleSwitch(), whole(3000000000), 1)
}

func TestExampleCounts(t *testing.T) {
	if a, b := model.Count(exampleDiode()), model.Count(exampleSwitch()); a != 2 || b != 2 {
		t.Errorf("the examples have %d and %d segments", a, b)
	}
	wrong(t, diode(nil, nil))
	s := exampleSwitch()
	s.G = s.G[:1]
	wrong(t, s)
}
