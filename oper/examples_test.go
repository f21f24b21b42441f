package oper_test

import (
	"testing"

	"shunt/api"
)

const (
	divider   = "v1 a 0 5 / r1 a b 1k / r2 b 0 1k / c1 b 0 1u"
	ofDivider = "5000000000 2500000000 -2500000 0 | -2500000 2500000 2500000 0 | []"
)

// The chapter's examples, one by one.
func TestExamples(t *testing.T) {
	f := laid(divider)
	points(t, f, by(8), 0, 1, ofDivider+" | 1 4 1")
	points(t, f, by(8), 0, 2, ofDivider+" | 1 4 2")
	rounds(t, 5, 1, 2, 2)
	rounds(t, 7, 1, 2, 4)
	rounds(t, -5, 1, 2, -2)
	refusesPart(t, 1, 2, 1, api.ErrArg)
	refuses(t, f, by(8), -1, 1, api.ErrRange)
	refuses(t, f, by(8), 0, 0, api.ErrArg)
}

// The numbers of the errors are the document's.
func TestTheNumbersOfTheErrors(t *testing.T) {
	for err, want := range map[api.Errno]int{
		api.OK: 0, api.ErrArg: 1, api.ErrRange: 4, api.ErrSize: 5, api.ErrWide: 13, api.ErrFlat: 90, api.ErrSingular: 140, api.ErrNoSegment: 160,
	} {
		if int(err) != want {
			t.Errorf("%d, not %d", err, want)
		}
	}
}
