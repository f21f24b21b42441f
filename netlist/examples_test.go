package netlist_test

import (
	"strings"
	"testing"

	"shunt/api"
)

// The chapter's examples, one by one.

func TestExamplesThatAreRead(t *testing.T) {
	reads(t, "r1 a 0 1k", api.Circuit{Step: n(1, -6), Method: api.Euler, Cards: cards("r1 a 0 1k")})
	reads(t, "", api.Circuit{Step: n(1, -6), Method: api.Euler})
	reads(t, div+" / x1 a b div / v1 a 0 5", api.Circuit{
		Step: n(1, -6), Method: api.Euler, Cards: cards("x1 a b div", "v1 a 0 5"),
		Subs: []api.Sub{sub("div", "in out", cards("r1 in out 1k", "r2 out 0 1k")...)},
	})
}

func TestExamplesThatAreRefused(t *testing.T) {
	refuses(t, ".ends", 1, api.ErrOrder)
	refuses(t, ".subckt a p", 1, api.ErrOrder)
	refuses(t, ".end / r1 a 0 1", 2, api.ErrOrder)
	refuses(t, ".foo", 1, api.ErrCard)
	refuses(t, ".step", 1, api.ErrCard)
	// Outside of a subcircuit ErrOrder comes ahead.
	refuses(t, ".subckt a p / .ends x", 2, api.ErrCard)
	refuses(t, "r1 a 0 1 / r1 b 0 1", 2, api.ErrTwice)
	refuses(t, ".step 1u / .step 1u", 2, api.ErrTwice)
	refuses(t, "d1 a 0 nomodel", 1, api.ErrRef)
	refuses(t, "f1 a 0 v9 2", 1, api.ErrRef)
	refuses(t, "x1 a nosub", 1, api.ErrRef)
	refuses(t, div+" / x1 a div", 5, api.ErrPorts)
	refuses(t, ".step 0", 1, api.ErrArg)
}

func TestExampleThatIsPrinted(t *testing.T) {
	prints(t, plain("r1 a 0 1k"), ".step 1u / .method euler / r1 a 0 1k / .end")
}

// The errors' numbers stand in the document.
func TestNumbersOfErrors(t *testing.T) {
	refuses(t, ".ends", 1, 80)
	refuses(t, ".foo", 1, 70)
	refuses(t, ".step x", 1, 3)
	refuses(t, ".step 1e10", 1, 30)
	refuses(t, ".step 0", 1, 1)
	refuses(t, ".step 1 / .step 1", 2, 8)
	refuses(t, ".subckt a 0", 1, 71)
	refuses(t, count(".model m# d 1", 1, 17), 17, 7)
	refuses(t, "d1 a 0 m", 1, 81)
	refuses(t, div+" / x1 a div", 5, 82)
	wrong(t, api.Circuit{}, 1)
	wrong(t, api.Circuit{Step: n(1, 0), Method: 1, Models: make([]api.Model, 1)}, 50)
	wrong(t, api.Circuit{Step: n(1, 0), Method: 2, Cards: make([]api.Card, 1)}, 70)
	refuses(t, strings.Repeat("\n", 65537), 0, 2)
}
