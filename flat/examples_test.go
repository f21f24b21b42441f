package flat_test

import (
	"slices"
	"testing"

	"shunt/api"
	"shunt/flat"
)

// The chapter's examples, one by one.

func TestExampleOfADivider(t *testing.T) {
	f := hand("0 a b x1.m", "v v1 1 0 dc 5", "r x1.r1 1 2 1k", "r x1.r2 2 0 1k", "r x1.r3 2 3 1k")
	lays(t, behind(div, "v1 a 0 5", "x1 a b div"), f)
	if count, branches := flat.Unknowns(f); count != 4 || !slices.Equal(branches, []int{3, -1, -1, -1}) {
		t.Error(count, branches)
	}
	for name, want := range map[string]int{"0": 0, "a": 1, "b": 2, "x1.m": 3} {
		if k, err := flat.Node(f, name); k != want || err != api.OK {
			t.Errorf("Node(%s): %d with error %d", name, k, err)
		}
	}
	if k, err := flat.Node(f, "m"); k != 0 || err != api.ErrNone {
		t.Errorf("Node(m): %d with error %d", k, err)
	}
	if k, err := flat.Dev(f, "x1.r2"); k != 2 || err != api.OK {
		t.Errorf("Dev(x1.r2): %d with error %d", k, err)
	}
}

func TestExampleOfARef(t *testing.T) {
	lays(t, "f1 a 0 v1 2 / v1 a 0 5", hand("0 a", "f f1 1 0 1 2", "v v1 1 0 dc 5"))
}

// doubled are so many subcircuits, each with two x of the one ahead, the first with one resistor.
func doubled() string {
	return behind(".subckt s1 p / r1 p 0 1 / .ends", count(".subckt s## p / x1 p s# / x2 p s# / .ends", 1, 7))
}

func TestExampleOfDoubling(t *testing.T) {
	refuses(t, behind(doubled(), "x1 a s8"), api.ErrMany)
	f := right(t, behind(doubled(), "x1 a s7"), 2, 64, 1)
	if f.Devs[0].Name != "x1.x1.x1.x1.x1.x1.x1.r1" || f.Devs[62].Name != "x1.x2.x2.x2.x2.x2.x1.r1" {
		t.Error(f.Devs[0].Name, f.Devs[62].Name)
	}
}

// The errors' numbers stand in the document.
func TestNumbersOfErrors(t *testing.T) {
	refuses(t, behind(doubled(), "x1 a s8"), 7)
	refuses(t, count("v# a 0 1", 1, 48), 5)
	refusesCircuit(t, api.Circuit{}, 1)
	wrong(t, api.Flat{}, 90)
	_, err := flat.Node(api.Flat{}, "0")
	if _, other := flat.Dev(api.Flat{}, "r1"); err != 6 || other != 6 {
		t.Error(err, other)
	}
}
