package stamp_test

import (
	"testing"

	"shunt/api"
	"shunt/stamp"
)

// The chapter's examples, one by one.

func TestExamples(t *testing.T) {
	f := laid("r1 a b 1k / c1 b 0 1u / v1 a 0 5")
	ofIs(t, f, 0, rest(), 0, "A 0 0 1/1000, A 0 1 -1/1000, A 1 0 -1/1000, A 1 1 1/1000")
	ofIs(t, f, 1, euler("1m"), 0, "A 1 2 1, A 2 2 1, A 2 1 -1/1000, H 2 1 -1/1000")
	ofIs(t, f, 1, trap("1m"), 0, "A 1 2 1, A 2 2 1, A 2 1 -1/500, H 2 1 -1/500, H 2 2 -1")
	ofIs(t, f, 2, rest(), 0, "A 0 3 1, A 3 0 1, S 3 2 1")
	currentIs(t, f, 0, 0, "A 0 0 1/1000, A 0 1 -1/1000")
	currentIs(t, f, 2, 0, "A 0 3 1")
	refuses(t, f, 3, rest(), 0, api.ErrArg)
	refuses(t, f, 0, api.Setting{Mode: 3}, 0, api.ErrSet)
}

// The errors' numbers stand in the document.
func TestNumbersOfErrors(t *testing.T) {
	f := laid(".model m d 1 / d1 a 0 m")
	refuses(t, api.Flat{}, 0, rest(), 0, 90)
	refusesCurrent(t, api.Flat{}, 0, 0, 90)
	refuses(t, f, 0, api.Setting{}, 0, 110)
	refuses(t, f, 1, rest(), 0, 1)
	refusesCurrent(t, f, 1, 0, 1)
	refuses(t, f, 0, rest(), 1, 111)
	refusesCurrent(t, f, 0, 1, 111)
	if err := stamp.Check(api.Setting{}); err != 110 {
		t.Error(err)
	}
	f = laid(count("v# a 0 1", 1, 47))
	f.Nodes = append(f.Nodes, "b")
	refuses(t, f, 0, rest(), 0, 5)
	refusesCurrent(t, f, 0, 0, 5)
}
