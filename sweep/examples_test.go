package sweep_test

import (
	"testing"

	"shunt/api"
	"shunt/sweep"
)

const (
	divider = "v1 a 0 5 / r1 a b 1k / r2 b 0 1k"
	diode   = "v1 a 0 5 / r1 a b 1k / d1 b 0 d / .model d d 1u 0.7 100m"
	volt    = 1000000000
)

// The chapter's examples, one by one.
func TestExamples(t *testing.T) {
	f := laid(divider)
	points(t, f, by(8), sweep.Range{Dev: 0, From: 0, By: 2 * volt, Count: 3},
		"0 0 0 | 0 0 0 | [] ; 2000000000 1000000000 -1000000 | -1000000 1000000 1000000 | [] ; 4000000000 2000000000 -2000000 | -2000000 2000000 2000000 | [] ; 1 3 3")
	refuses(t, f, by(8), sweep.Range{Dev: 1, From: 0, By: 2 * volt, Count: 3}, api.ErrArg)
	refuses(t, f, by(8), sweep.Range{Dev: 0, From: 0, By: 0, Count: 0}, api.ErrArg)
	refuses(t, f, by(8), sweep.Range{Dev: 0, From: 0, By: 0, Count: 257}, api.ErrArg)
	refuses(t, f, by(8), sweep.Range{Dev: 0, From: edge, By: 1, Count: 2}, api.ErrRange)
	points(t, laid(diode), by(8), sweep.Range{Dev: 0, From: 0, By: 2500000000, Count: 3},
		"0 0 0 | 0 0 0 | [0] ; 2500000000 717814851 -1782185 | -1782185 1782185 1782185 | [1] ; 5000000000 742567327 -4257433 | -4257433 4257433 4257433 | [1] ; 2 6 4")
}

// The numbers of the errors are the document's.
func TestTheNumbersOfTheErrors(t *testing.T) {
	for err, want := range map[api.Errno]int{
		api.OK: 0, api.ErrArg: 1, api.ErrRange: 4, api.ErrSize: 5, api.ErrWide: 13, api.ErrFlat: 90, api.ErrSingular: 140, api.ErrNoSegment: 160,
	} {
		if int(err) != want {
			t.Errorf("%d, not %d", err, want)
		}
	}
}
