package pwl_test

import (
	"strconv"
	"testing"

	"shunt/api"
	"shunt/plan"
	"shunt/pwl"
)

// held is a diode, or a switch, of which the source v1 alone says what it looks at: 1 V and more or less.
const (
	heldDiode  = "v1 a 0 1 / d1 a 0 d / .model d d 1 1 2"
	turned     = "v1 a 0 -1 / d1 0 a d / .model d d 1 1 2"
	heldSwitch = "v1 a 0 1 / v2 b 0 3 / s1 b 0 a 0 s / .model s s 1 1 2"
)

// A voltage that stands just at a knot is held by the segments on both of its sides, whichever was chosen; one unit above or
// below it, by one of them.
func TestJustAtAKnot(t *testing.T) {
	f := laid(heldDiode)
	for _, x := range []struct {
		v     int64
		seg   int
		want  string
		amps  string
		tries int64
	}{
		{1000000000, 0, "1000000000 -1000000000 [0] 1", "-1000000000 1000000000", 1},
		{1000000000, 1, "1000000000 -1000000000 [1] 1", "-1000000000 1000000000", 1},
		{1000000001, 0, "1000000001 -1000000002 [1] 2", "-1000000002 1000000002", 2},
		{1000000001, 1, "1000000001 -1000000002 [1] 1", "-1000000002 1000000002", 1},
		{999999999, 0, "999999999 -999999999 [0] 1", "-999999999 999999999", 1},
		{999999999, 1, "999999999 -999999999 [0] 2", "-999999999 999999999", 2},
	} {
		s, a := made(t, f, resting(), by(2)), with(said(f), 0, x.v)
		got, err := s.Step([]int{x.seg}, a)
		if text(got, err) != x.want {
			t.Errorf("%v: %s", x, text(got, err))
		}
		counted(t, s, x.tries, 2*x.tries, x.tries)
		_, amps, err := pwl.Report(f, got.Segs, got.Solution, a.Src)
		if err != api.OK || numbers(amps) != x.amps {
			t.Errorf("%v: %v, error %d", x, amps, err)
		}
	}
	g := laid(turned)
	for seg := range 2 {
		steps(t, made(t, g, resting(), by(1)), []int{seg}, said(g), "-1000000000 1000000000 ["+strconv.Itoa(seg)+"] 1")
	}
}

// A voltage by parts of a unit beside a knot: that it would be rounded to the knot makes no difference.
func TestByPartsOfAUnitBesideAKnot(t *testing.T) {
	f := laid("v1 a 0 1 / r1 a b 1 / r2 b 0 1 / v2 c 0 7 / s1 c 0 b 0 s / .model s s 1 0.5 2")
	for _, x := range []struct {
		v    int64
		seg  int
		want string
	}{
		{1000000000, 0, "[0] 1"}, {1000000000, 1, "[1] 1"}, {1000000001, 0, "[1] 2"}, {1000000001, 1, "[1] 1"}, {999999999, 0, "[0] 1"}, {999999999, 1, "[0] 2"},
	} {
		got, err := made(t, f, resting(), by(2)).Step([]int{x.seg}, with(said(f), 0, x.v))
		if text(got, err)[len(text(got, err))-5:] != x.want {
			t.Errorf("%v: %s", x, text(got, err))
		}
	}
}

func TestJustAtASwitchsBounds(t *testing.T) {
	f := laid(heldSwitch)
	for _, x := range []struct {
		v    int64
		seg  int
		want string
	}{
		{1000000000, 0, "1000000000 3000000000 0 -3000000000 [0] 1"}, {1000000000, 1, "1000000000 3000000000 0 -6000000000 [1] 1"},
		{1000000001, 0, "1000000001 3000000000 0 -6000000000 [1] 2"}, {1000000001, 1, "1000000001 3000000000 0 -6000000000 [1] 1"},
		{999999999, 0, "999999999 3000000000 0 -3000000000 [0] 1"}, {999999999, 1, "999999999 3000000000 0 -3000000000 [0] 2"},
		{-1000000000, 1, "-1000000000 3000000000 0 -3000000000 [0] 2"},
	} {
		steps(t, made(t, f, resting(), by(2)), []int{x.seg}, with(said(f), 0, x.v), x.want)
	}
	// It looks from C to D, and at nothing else.
	g := laid("v1 a 0 1 / v2 b 0 3 / s1 b 0 0 a s / .model s s 1 -1 2")
	steps(t, made(t, g, resting(), by(1)), []int{0}, said(g), "1000000000 3000000000 0 -3000000000 [0] 1")
	steps(t, made(t, g, resting(), by(1)), []int{1}, said(g), "1000000000 3000000000 0 -6000000000 [1] 1")
	steps(t, made(t, g, resting(), by(2)), []int{0}, with(said(g), 0, 999999999), "999999999 3000000000 0 -6000000000 [1] 2")
	refusesStep(t, made(t, g, resting(), by(1)), []int{1}, with(said(g), 0, 1000000001), api.ErrNoSegment)
}

// stairs is a diode of four segments, held at what v1 says.
const stairs = "v1 a 0 5 / d1 a 0 d / .model d d 1 1 2 2 3 3 4"

// A step that holds at the first choice, at the last one that Iter allows, and at none.
func TestChoiceByChoice(t *testing.T) {
	f := laid(stairs)
	a := said(f)
	for iter := 1; iter <= api.MaxIter; iter++ {
		for seg := range 4 {
			s := made(t, f, resting(), by(iter))
			tries := 4 - seg
			if iter < tries {
				refusesStep(t, s, []int{seg}, a, api.ErrNoSegment)
				counted(t, s, int64(iter), int64(2*iter), int64(iter))
				continue
			}
			steps(t, s, []int{seg}, a, "5000000000 -14000000000 [3] "+strconv.Itoa(tries))
			counted(t, s, int64(tries), int64(2*tries), int64(tries))
		}
	}
	down := with(a, 0, -1)
	for seg := range 4 {
		steps(t, made(t, f, resting(), by(seg+1)), []int{seg}, down, "-1 1 [0] "+strconv.Itoa(seg+1))
		if seg > 0 {
			refusesStep(t, made(t, f, resting(), by(seg)), []int{seg}, down, api.ErrNoSegment)
		}
	}
}

// Each goes on by one segment, however far away the voltage is; it stops at the first that holds, from either side.
func TestByOneSegment(t *testing.T) {
	f := laid(stairs)
	for v, want := range map[int64]string{1500000000: "1500000000 -2000000000", 2000000000: "2000000000 -3000000000", 2500000000: "2500000000 -4500000000"} {
		a := with(said(f), 0, v)
		from0, from3 := map[int64]string{1500000000: "[1] 2", 2000000000: "[1] 2", 2500000000: "[2] 3"}, map[int64]string{1500000000: "[1] 3", 2000000000: "[2] 2", 2500000000: "[2] 2"}
		steps(t, made(t, f, resting(), by(8)), []int{0}, a, want+" "+from0[v])
		steps(t, made(t, f, resting(), by(8)), []int{3}, a, want+" "+from3[v])
	}
}

// Of two bent devices one goes on and the other stays; or both go on at once, to the same side or to unlike ones.
func TestTwoBentDevices(t *testing.T) {
	f := laid("v1 a 0 5 / v2 b 0 -5 / d1 a 0 d / d2 b 0 d / .model d d 1 1 2 2 3 3 4")
	a := said(f)
	for _, x := range []struct {
		from []int
		want string
	}{
		{[]int{3, 0}, "[3 0] 1"}, {[]int{2, 0}, "[3 0] 2"}, {[]int{3, 1}, "[3 0] 2"}, {[]int{2, 1}, "[3 0] 2"}, {[]int{0, 0}, "[3 0] 4"},
		{[]int{0, 3}, "[3 0] 4"}, {[]int{3, 3}, "[3 0] 4"}, {[]int{1, 3}, "[3 0] 4"}, {[]int{1, 1}, "[3 0] 3"},
	} {
		s := made(t, f, resting(), by(4))
		steps(t, s, x.from, a, "5000000000 -5000000000 -14000000000 5000000000 "+x.want)
		tries := int64(x.want[len(x.want)-1] - '0')
		counted(t, s, tries, 4*tries, tries)
	}
	// What the one does when it goes on may turn the other: s2 goes on beside s1, and then back.
	g := laid("v1 a 0 5 / r1 a b 1 / s1 b 0 a 0 s / s2 a 0 b 0 s / .model s s 0 2 3")
	refusesStep(t, made(t, g, resting(), by(2)), []int{0, 0}, said(g), api.ErrNoSegment)
	steps(t, made(t, g, resting(), by(3)), []int{0, 0}, said(g), "5000000000 1250000000 -3750000000 [1 0] 3")
}

// A switch that opens as soon as it is closed: its choices come back, and none ever holds.
func TestAChoiceThatComesBack(t *testing.T) {
	f := laid("v1 a 0 5 / r1 a b 1k / s1 b 0 b 0 s / .model s s 1n 2.5 1")
	for _, iter := range []int{1, 2, 3, 63, 64} {
		for seg := range 2 {
			s := made(t, f, resting(), by(iter))
			refusesStep(t, s, []int{seg}, said(f), api.ErrNoSegment)
			counted(t, s, int64(iter), int64(3*iter), int64(iter))
			// The kept plan is the last choice's: that choice begins without a new one, and it alone does.
			last := (seg + iter - 1) % 2
			refusesStep(t, s, []int{last}, said(f), api.ErrNoSegment)
			counted(t, s, int64(2*iter-1), int64(3*(2*iter-1)), int64(2*iter))
			refusesStep(t, s, []int{(last + iter) % 2}, said(f), api.ErrNoSegment)
			counted(t, s, int64(3*iter-1), int64(3*(3*iter-1)), int64(3*iter))
		}
	}
}

// A plan is kept as long as its choice is looked at, and is built anew behind another one.
func TestAPlanThatIsKept(t *testing.T) {
	f := laid(theDiode)
	s, a, low := made(t, f, resting(), by(8)), said(f), with(said(f), 0, 100000000)
	steps(t, s, []int{1}, a, ofTheDiode+" [1] 1")
	counted(t, s, 1, 3, 1)
	for k := range int64(5) {
		steps(t, s, []int{1}, with(a, 1, k), ofTheDiode+" [1] 1")
		counted(t, s, 1, 3, 2+k)
	}
	steps(t, s, []int{0}, low, "100000000 100000000000/1001 -100000/1001 [0] 1")
	counted(t, s, 2, 6, 7)
	steps(t, s, []int{1}, low, "100000000 100000000000/1001 -100000/1001 [0] 2")
	counted(t, s, 4, 12, 9)
	steps(t, s, []int{0}, low, "100000000 100000000000/1001 -100000/1001 [0] 1")
	counted(t, s, 4, 12, 10)
	steps(t, s, []int{0}, a, ofTheDiode+" [1] 2")
	counted(t, s, 5, 15, 12)
	// Neither what is refused nor what is asked about makes a difference to it.
	refusesStep(t, s, []int{0, 0}, a, api.ErrSeg)
	refusesStep(t, s, []int{0}, plan.Ask{}, api.ErrSize)
	refusesStep(t, s, []int{0}, with(a, 0, edge+1), api.ErrRange)
	refusesStep(t, s, []int{0}, plan.Ask{Prev: []int64{0, 0, edge + 1}, Src: a.Src}, api.ErrRange)
	counted(t, s, 5, 15, 12)
	steps(t, s, []int{1}, a, ofTheDiode+" [1] 1")
	counted(t, s, 5, 15, 13)
}

// Without bent devices one choice is solved, that of no segments, by one plan.
func TestWithoutBentDevices(t *testing.T) {
	f := laid("v1 a 0 5 / r1 a b 1k / r2 b 0 2k")
	for _, none := range [][]int{nil, {}} {
		s := made(t, f, resting(), by(1))
		for k := range int64(4) {
			steps(t, s, none, said(f), "5000000000 10000000000/3 -5000000/3 [] 1")
			counted(t, s, 1, 3, 1+k)
		}
		refusesStep(t, s, []int{0}, said(f), api.ErrSeg)
		counted(t, s, 1, 3, 4)
	}
}

// Circuits without unknowns, and such of the ground alone.
func TestWithoutUnknowns(t *testing.T) {
	empty := api.Solution{D: whole("1")}
	f := laid("")
	s := made(t, f, resting(), by(1))
	steps(t, s, nil, plan.Ask{}, "[] 1")
	steps(t, s, []int{}, plan.Ask{Prev: []int64{}, Src: []int64{}}, "[] 1")
	counted(t, s, 1, 0, 2)
	refusesStep(t, s, nil, plan.Ask{Prev: []int64{0}}, api.ErrSize)
	refusesStep(t, s, nil, plan.Ask{Src: []int64{0}}, api.ErrSize)
	refusesStep(t, s, []int{0}, plan.Ask{}, api.ErrSeg)
	reports(t, f, nil, empty, nil, "", "")
	reports(t, api.Flat{Nodes: []string{"0"}, Step: n(1, 0), Method: api.Trap}, nil, solution("/ 7"), nil, "", "")

	g := laid("r1 0 0 1 / i1 0 0 2 / d1 0 0 d / s1 0 0 0 0 s / .model d d 1 -2 3 -1 5 1 7 / .model s s 1 0 2")
	a := plan.Ask{Src: []int64{0, 2000000000, 0, 0}}
	s = made(t, g, resting(), by(3))
	steps(t, s, []int{0, 0}, a, "[2 0] 3")
	counted(t, s, 3, 0, 3)
	steps(t, s, []int{3, 1}, a, "[2 1] 2")
	counted(t, s, 5, 0, 5)
	steps(t, s, []int{2, 0}, a, "[2 0] 1")
	counted(t, s, 6, 0, 6)
	refusesStep(t, made(t, g, resting(), by(2)), []int{0, 0}, a, api.ErrNoSegment)
	reports(t, g, []int{2, 0}, empty, a.Src, "", "0 2000000000 6000000000 0")
	reports(t, g, []int{0, 1}, solution("/ 3"), a.Src, "", "0 2000000000 0 0")
	reports(t, g, []int{1, 1}, solution("/ 3"), a.Src, "", "0 2000000000 4000000000 0")
}

// Limbs are those of elimination: as many as allowed, or one too few.
func TestLimbs(t *testing.T) {
	f := laid("v1 a 0 1 / r1 a 0 1")
	a := said(f)
	for limbs := 1; limbs <= api.MaxLimbs; limbs++ {
		s := made(t, f, resting(), api.Options{Limbs: limbs, Iter: 1, Workers: 16})
		steps(t, s, nil, a, "1000000000 -1000000000 [] 1")
		wide := with(a, 0, 1<<32)
		if limbs > 1 {
			steps(t, s, nil, wide, "4294967296 -4294967296 [] 1")
		} else {
			refusesStep(t, s, nil, wide, api.ErrWide)
		}
		counted(t, s, 1, 2, 2)
	}
	// The first choice is solved, and the one behind it is wide: in its matrix; with its own plan kept, and counted.
	g := laid("v1 a 0 0.1 / r1 a 0 1 / d1 a 0 d / .model d d 1 0.05 1p")
	narrow := made(t, g, resting(), api.Options{Limbs: 1, Iter: 8, Workers: 1})
	refusesStep(t, narrow, []int{0}, said(g), api.ErrWide)
	counted(t, narrow, 2, 2, 1)
	refusesStep(t, narrow, []int{1}, said(g), api.ErrWide)
	counted(t, narrow, 2, 2, 1)
	steps(t, narrow, []int{0}, with(said(g), 0, 50000000), "50000000 -100000000 [0] 1")
	counted(t, narrow, 3, 4, 2)
	steps(t, made(t, g, resting(), api.Options{Limbs: 3, Iter: 8, Workers: 1}), []int{0}, said(g), "100000000 -3000000000001/20000 [1] 2")
}

// A choice whose equations have no one solution ends the step, wherever it is met; its plan is kept, with the error.
func TestAChoiceWithoutASolution(t *testing.T) {
	f := laid("v1 a 0 5 / d1 a b d / r1 b c 1k / s1 c 0 a 0 s / .model d d 0 10 1 / .model s s 1 3 0")
	a := said(f)
	s := made(t, f, resting(), by(8))
	for k := range int64(3) {
		refusesStep(t, s, []int{0, 1}, with(a, 0, k), api.ErrSingular)
		counted(t, s, 1, 3, 0)
	}
	steps(t, s, []int{0, 0}, with(a, 0, 2000000000), "2000000000 0 0 0 [0 0] 1")
	counted(t, s, 2, 7, 1)
	// Behind the first choice, which is solved but doesn't hold, comes one that isn't.
	refusesStep(t, s, []int{0, 0}, a, api.ErrSingular)
	counted(t, s, 3, 10, 2)
	refusesStep(t, s, []int{0, 1}, a, api.ErrSingular)
	counted(t, s, 3, 10, 2)
	refusesStep(t, made(t, f, resting(), by(1)), []int{0, 0}, a, api.ErrNoSegment)
	refusesStep(t, made(t, f, resting(), by(2)), []int{0, 0}, a, api.ErrSingular)
}
