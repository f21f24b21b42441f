package pwl_test

import (
	"testing"

	"shunt/api"
	"shunt/pwl"
)

const ofTheDiode = "5000000000 74999300000/101 -430000700/101"

func TestExamples(t *testing.T) {
	f := laid(theDiode)
	a := said(f)
	s := made(t, f, resting(), by(8))
	x, err := s.Step([]int{0}, a)
	if err != api.OK || len(x.Segs) != 1 || x.Segs[0] != 1 || x.Tries != 2 {
		t.Fatal(x, err)
	}
	reports(t, f, x.Segs, x.Solution, a.Src, "5000000000 742567327 -4257433", "-4257433 4257433 4257433")
	counted(t, s, 2, 6, 2)
	steps(t, s, []int{1}, a, ofTheDiode+" [1] 1")
	counted(t, s, 2, 6, 3)
	s = made(t, f, resting(), by(8))
	steps(t, s, []int{0}, a, ofTheDiode+" [1] 2")
	if x, err = s.Step([]int{1}, a); err != api.OK || x.Tries != 1 || x.Segs[0] != 1 {
		t.Error(x, err)
	}
	reports(t, f, x.Segs, x.Solution, a.Src, "5000000000 742567327 -4257433", "-4257433 4257433 4257433")
	counted(t, s, 2, 6, 3)
	refusesStep(t, s, []int{2}, a, api.ErrSeg)
	counted(t, s, 2, 6, 3)
	one := made(t, f, resting(), by(1))
	refusesStep(t, one, []int{0}, a, api.ErrNoSegment)
	counted(t, one, 1, 3, 1)
}

// The numbers of the errors are the document's.
func TestTheNumbersOfTheErrors(t *testing.T) {
	for err, want := range map[api.Errno]int{
		api.OK: 0, api.ErrArg: 1, api.ErrRange: 4, api.ErrSize: 5, api.ErrInt: 10, api.ErrWide: 13, api.ErrFlat: 90, api.ErrSet: 110, api.ErrSeg: 111,
		api.ErrSingular: 140, api.ErrNoSegment: 160,
	} {
		if int(err) != want {
			t.Errorf("%d, not %d", err, want)
		}
	}
}

func TestOptions(t *testing.T) {
	f := laid(theDiode)
	for _, x := range []struct {
		limbs, iter, workers int
		want                 api.Errno
	}{
		{1, 1, 1, api.OK}, {32, 64, 16, api.OK}, {32, 1, 16, api.OK}, {1, 64, 1, api.OK}, {7, 9, 11, api.OK},
		{0, 1, 1, api.ErrArg}, {33, 1, 1, api.ErrArg}, {-1, 1, 1, api.ErrArg}, {64, 8, 8, api.ErrArg}, {72, 8, 8, api.ErrArg},
		{32, 0, 1, api.ErrArg}, {32, 65, 1, api.ErrArg}, {32, -1, 1, api.ErrArg}, {32, 1 << 32, 1, api.ErrArg}, {32, 1<<32 + 1, 1, api.ErrArg},
		{32, 8, 0, api.ErrArg}, {32, 8, 17, api.ErrArg}, {32, 8, -1, api.ErrArg}, {32, 8, 64, api.ErrArg},
		{0, 0, 0, api.ErrArg}, {-1 << 63, -1 << 63, -1 << 63, api.ErrArg}, {1<<63 - 1, 1<<63 - 1, 1<<63 - 1, api.ErrArg},
	} {
		o := api.Options{Limbs: x.limbs, Iter: x.iter, Workers: x.workers}
		if got := pwl.Check(o); got != x.want {
			t.Errorf("Check(%v): error %d, not %d", o, got, x.want)
		}
		if x.want == api.OK {
			made(t, f, resting(), o)
		} else {
			refuses(t, f, resting(), o, x.want)
		}
	}
}
