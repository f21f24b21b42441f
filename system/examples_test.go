package system_test

import (
	"testing"

	"shunt/api"
	"shunt/system"
)

// The chapter's examples, one by one.

func TestExamples(t *testing.T) {
	f := laid("v1 a 0 5 / r1 a b 1k / r2 b 0 2k")
	buildIs(t, f, rest(), nil, "1000 A 0:1 1:-1 2:1000 / 2000 A 0:-2 1:3 / 1 A 0:1 S 0:1")
	s, err := system.Build(f, rest(), nil)
	if err != api.OK {
		t.Fatal(err)
	}
	for _, row := range s.Rows {
		if told(row.K) != "0" {
			t.Error(row)
		}
	}
	rhsIs(t, s, []int64{0, 0, 0}, []int64{5000000000, 0, 0}, "0 0 5000000000")
	refusesRhs(t, s, []int64{0, 0}, []int64{5000000000, 0, 0}, api.ErrSize)
	sourcesAre(t, f, 3, 5000000000, 0, 0)
	refuses(t, f, rest(), []int{0}, api.ErrSeg)
}

// The errors' numbers stand in the document.
func TestNumbersOfErrors(t *testing.T) {
	f := laid("v1 a 0 5 / r1 a b 1k")
	refuses(t, api.Flat{}, rest(), nil, 90)
	refusesSources(t, api.Flat{}, 0, 90)
	refuses(t, f, api.Setting{}, nil, 110)
	refuses(t, f, rest(), []int{0}, 111)
	refusesSources(t, f, -1, 4)
	checks(t, api.System{Rows: make([]api.Row, 1)}, 130)
	refusesRhs(t, api.System{Rows: make([]api.Row, 1)}, nil, nil, 130)
	refusesRhs(t, of("1"), nil, nil, 5)
	refusesRhs(t, of("1 S 0:1"), []int64{0}, nil, 5)
	refusesRhs(t, of("1"), []int64{most + 1}, nil, 4)
	refusesRhs(t, api.System{Rows: []api.Row{{Mult: power(0), H: []api.Cell{{Val: limbs(72)}}}}}, []int64{2}, nil, 13)
	f = laid(count("v# a 0 1", 1, 47))
	f.Nodes = append(f.Nodes, "b")
	refuses(t, f, rest(), nil, 5)
	refusesSources(t, f, 0, 5)
}
