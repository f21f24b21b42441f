package oper_test

import (
	"fmt"
	"math"
	"strings"
	"testing"

	"shunt/api"
)

// narrow are right options of so few limbs.
func narrow(limbs int) api.Options { return api.Options{Limbs: limbs, Iter: 8, Workers: 1} }

// inParts fails unless Point answers the state in 1, 2, 3, 8 and 64 parts, with these Factors and Pivots, and a Solve a part
// beside so many more.
func inParts(t *testing.T, f api.Flat, state string, factors, pivots, more int) {
	t.Helper()
	for _, parts := range []int{1, 2, 3, 8, 64} {
		points(t, f, by(8), 0, parts, fmt.Sprint(state, " | ", factors, " ", pivots, " ", parts+more))
	}
}

// How many parts there may be: 1 to 64.
func TestHowManyParts(t *testing.T) {
	f := laid(divider)
	for parts := 1; parts <= 64; parts++ {
		points(t, f, by(1), 0, parts, fmt.Sprint(ofDivider, " | 1 4 ", parts))
	}
	for _, parts := range []int{0, -1, 65, 66, 128, 1 << 32, 1<<32 + 1} {
		refuses(t, f, by(1), 0, parts, api.ErrArg)
	}
}

// A point without bent devices takes one choice a part, one with them as many as Iter allows.
func TestHowManyChoices(t *testing.T) {
	// A switch that opens as soon as it is closed; at half of the volts it doesn't close.
	f := laid("v1 a 0 5 / r1 a b 1k / s1 b 0 b 0 s / .model s s 1n 2.5 1")
	for iter := 1; iter <= 64; iter++ {
		points(t, laid(divider), by(iter), 0, 3, ofDivider+" | 1 4 3")
		points(t, f, by(iter), 0, 1, asError(api.ErrNoSegment, iter, 3*iter, iter))
		points(t, f, by(iter), 0, 2, asError(api.ErrNoSegment, iter, 3*iter, iter+1))
	}
}

// A stairs is a diode of four segments, held at what v1 says: in volts, or in units of the grid.
type stairs struct {
	units bool
	knots [3]int64 // in volts, or in tenths of a unit
}

// circuit is that of v1 saying v. Below 0 the diode is turned.
func (s stairs) circuit(v int64) api.Flat {
	unit, scale, ends := "", "", "a 0"
	if s.units {
		unit, scale = "n", "e-10"
	}
	if v < 0 {
		ends = "0 a"
	}
	return laid(fmt.Sprintf("v1 a 0 %d%s / d1 %s d / .model d d 1 %d%s 2 %d%s 3 %d%s 4", v, unit, ends, s.knots[0], scale, s.knots[1], scale, s.knots[2], scale))
}

// inTenths are the knots in tenths of a unit, and what v1 says in units.
func (s stairs) inTenths(v int64) ([3]int64, int64) {
	if s.units {
		return s.knots, v
	}
	volt := int64(1000000000)
	return [3]int64{10 * volt * s.knots[0], 10 * volt * s.knots[1], 10 * volt * s.knots[2]}, volt * v
}

// answer is what Point answers: each part solves as many choices as there are segments from that of the part ahead to its own.
func (s stairs) answer(v int64, iter, parts int) string {
	knots, says := s.inTenths(v)
	size := max(says, -says)
	seg, solves := 0, 0
	for k := 1; k <= parts; k++ {
		to := seg
		for to < 3 && 10*shareMeant(size, k, parts) > knots[to] {
			to++
		}
		if to-seg >= iter {
			return asError(api.ErrNoSegment, seg+iter, 2*(seg+iter), solves+iter)
		}
		solves += to - seg + 1
		seg = to
	}
	tenths := 10 * size * int64(seg+1)
	for k := range seg {
		tenths -= knots[k]
	}
	through, out := shareMeant(tenths, 1, 10), shareMeant(-tenths, 1, 10)
	if v < 0 {
		out = through
	}
	return fmt.Sprintf("%d %d | %d %d | [%d] | %d %d %d", says, out, out, through, seg, seg+1, 2*(seg+1), solves)
}

// A choice that one part finds is where the next one begins, with its plan; and the next one leaves it.
func TestChoicesFromPartToPart(t *testing.T) {
	volts := stairs{false, [3]int64{1, 2, 3}}
	points(t, volts.circuit(5), by(4), 0, 1, "5000000000 -14000000000 | -14000000000 14000000000 | [3] | 4 8 4")
	points(t, volts.circuit(5), by(2), 0, 5, "5000000000 -14000000000 | -14000000000 14000000000 | [3] | 4 8 8")
	// Refused in one part and found in several; refused behind parts that were found.
	points(t, volts.circuit(5), by(2), 0, 1, asError(api.ErrNoSegment, 2, 4, 2))
	points(t, volts.circuit(5), by(1), 0, 5, asError(api.ErrNoSegment, 1, 2, 2))
	points(t, volts.circuit(5), by(2), 0, 2, asError(api.ErrNoSegment, 2, 4, 2))
	points(t, volts.circuit(4), by(2), 0, 2, asError(api.ErrNoSegment, 3, 6, 4))
	points(t, volts.circuit(3), by(2), 0, 2, "3000000000 -6000000000 | -6000000000 6000000000 | [2] | 3 6 4")
	for iter := 1; iter <= 5; iter++ {
		for v := int64(-9); v <= 9; v++ {
			for parts := 1; parts <= 64; parts += 1 + parts/2 {
				points(t, volts.circuit(v), by(iter), 0, parts, volts.answer(v, iter, parts))
			}
		}
	}
}

// Halves that a part rounds to the even one, above and below 0, seen by the choices that it takes; with sources that round to
// 0 in the first parts.
func TestPartsThatAreRounded(t *testing.T) {
	// 5 units are 2 at the half, not 3.
	low := stairs{true, [3]int64{20, 40, 60}}
	for _, sign := range []int64{1, -1} {
		f := low.circuit(5 * sign)
		points(t, f, by(2), 0, 2, asError(api.ErrNoSegment, 2, 4, 3))
		points(t, f, by(3), 0, 2, fmt.Sprintf("%d %d | %d 9 | [2] | 3 6 4", 5*sign, -9*sign, -9*sign))
	}
	// 7 units are 4 at the half, not 3.
	high := stairs{true, [3]int64{30, 50, 100}}
	for _, sign := range []int64{1, -1} {
		points(t, high.circuit(7*sign), by(2), 0, 2, fmt.Sprintf("%d %d | %d 13 | [2] | 3 6 4", 7*sign, -13*sign, -13*sign))
	}
	// One unit is 0 at the half and up to it: the first knot stands just above 0.
	first := stairs{true, [3]int64{1, 6, 12}}
	for _, sign := range []int64{1, -1} {
		f := first.circuit(sign)
		points(t, f, by(2), 0, 2, asError(api.ErrNoSegment, 2, 4, 3))
		points(t, f, by(3), 0, 2, fmt.Sprintf("%d %d | %d 2 | [2] | 3 6 4", sign, -2*sign, -2*sign))
		points(t, f, by(3), 0, 64, fmt.Sprintf("%d %d | %d 2 | [2] | 3 6 66", sign, -2*sign, -2*sign))
		points(t, f, by(2), 0, 64, asError(api.ErrNoSegment, 2, 4, 34))
	}
	for _, s := range []stairs{low, high, first, {true, [3]int64{5, 15, 25}}, {true, [3]int64{14, 16, 34}}} {
		for iter := 1; iter <= 4; iter++ {
			for v := int64(-12); v <= 12; v++ {
				for _, parts := range []int{2, 3, 4, 7} {
					points(t, s.circuit(v), by(iter), 0, parts, s.answer(v, iter, parts))
				}
			}
		}
	}
}

// s1 closes with the voltage of c, which s2 takes away again: what part 3 finds, part 4 leaves, to the one side and the other.
func TestAChoiceThatIsLeftAgain(t *testing.T) {
	f := laid("v1 a 0 4 / r1 a c 1 / r2 c 0 1 / s1 b 0 c 0 s / r3 a b 1 / s2 c 0 a 0 z / .model s s 0 1.25 1 / .model z s 0 3 8")
	state := "4000000000 400000000 4000000000 -3600000000 | -3600000000 3600000000 400000000 0 0 3200000000 | [0 1]"
	points(t, f, by(3), 0, 1, state+" | 3 12 3")
	points(t, f, by(3), 0, 2, state+" | 3 12 4")
	points(t, f, by(3), 0, 4, state+" | 4 16 7")
	points(t, f, by(2), 0, 4, asError(api.ErrNoSegment, 3, 12, 6))
	points(t, f, by(1), 0, 4, asError(api.ErrNoSegment, 1, 4, 3))
}

// With bent devices parts may lead to another choice that holds, too.
func TestPartsThatLeadElsewhere(t *testing.T) {
	f := laid("v1 a 0 3 / r1 a b 1 / s1 b 0 a 0 s / s2 b 0 b 0 z / .model s s 0 1 1 / .model z s 0 2 -1")
	points(t, f, by(8), 0, 1, "3000000000 3000000000 0 | 0 0 3000000000 -3000000000 | [1 1] | 2 6 2")
	inElse := "3000000000 1500000000 -1500000000 | -1500000000 1500000000 1500000000 0 | [1 0] | 2 6 "
	points(t, f, by(8), 0, 2, inElse+"3")
	points(t, f, by(8), 0, 64, inElse+"65")
}

// A choice without a solution that one part meets and several don't, and the other way round.
func TestSingularInOnePartAlone(t *testing.T) {
	f := laid("v1 a 0 3 / r1 a b 1 / s1 b 0 a 0 s / s2 b 0 b 0 z / .model s s 0 1 1 / .model z s 0 2 -2")
	points(t, f, by(8), 0, 1, asError(api.ErrSingular, 2, 5, 1))
	points(t, f, by(8), 0, 2, "3000000000 1500000000 -1500000000 | -1500000000 1500000000 1500000000 0 | [1 0] | 2 6 3")
	g := laid("v1 a 0 3 / r1 a b 1 / s1 b 0 a 0 s / s2 b 0 a 0 z / .model s s 0 1 -1 / .model z s 0 2 1")
	points(t, g, by(8), 0, 1, "3000000000 3000000000 0 | 0 0 -3000000000 3000000000 | [1 1] | 2 6 2")
	points(t, g, by(8), 0, 2, asError(api.ErrSingular, 2, 5, 1))
	points(t, g, by(8), 0, 3, asError(api.ErrSingular, 2, 5, 2))
	points(t, g, by(8), 0, 64, asError(api.ErrSingular, 2, 5, 22))
	// What has no solution at rest has none in any parts.
	for _, lines := range []string{"i1 a 0 1", "v1 a 0 1 / v2 a 0 1", "v1 a 0 1 / l1 a 0 1", "v1 a 0 1 / c1 a b 1", "r1 a 0 1 / r2 a 0 -1"} {
		one := answer(laid(lines), by(8), 0, 1)
		if !strings.HasPrefix(one, "error 140 | 1 ") || !strings.HasSuffix(one, " 0") {
			t.Errorf("%s: %s", lines, one)
		}
		points(t, laid(lines), by(8), 0, 2, one)
		points(t, laid(lines), by(8), api.MaxStep, 64, one)
	}
}

// Numbers of more limbs than are allowed, in the first part or in a later one.
func TestWideInALaterPart(t *testing.T) {
	f := laid("v1 a 0 5 / r1 a 0 1")
	for parts, solves := range map[int]int{1: 1, 2: 2, 3: 3, 8: 7, 64: 55} {
		points(t, f, narrow(1), 0, parts, asError(api.ErrWide, 1, 2, solves))
	}
	for limbs := 2; limbs <= api.MaxLimbs; limbs++ {
		points(t, f, narrow(limbs), 0, 64, "5000000000 -5000000000 | -5000000000 5000000000 | [] | 1 2 64")
	}
	points(t, laid("v1 a 0 4.29496729 / r1 a 0 1"), narrow(1), 0, 64, "4294967290 -4294967290 | -4294967290 4294967290 | [] | 1 2 64")
	// In the matrix of a choice that the last part alone looks at.
	g := laid("v1 a 0 0.1 / r1 a 0 1 / d1 a 0 d / .model d d 1 0.05 1p")
	points(t, g, narrow(1), 0, 2, asError(api.ErrWide, 2, 2, 2))
	points(t, g, narrow(1), 0, 1, asError(api.ErrWide, 2, 2, 1))
}

// Steps: all from 0 to 1000000000, of each kind of source.
func TestSteps(t *testing.T) {
	f := laid("v1 a 0 pulse 0 5 1 2 1 1 8 / i1 0 b table 1 2 3 / r1 a 0 1 / r2 b 0 1 / v2 c 0 pwl 2 1 1000000000 2 / r3 c 0 1k")
	for _, x := range []struct {
		step int
		want string
	}{
		{0, "0 1000000000 1000000000 0 -1000000 | 0 1000000000 0 1000000000 -1000000 1000000"},
		{1, "0 2000000000 1000000000 0 -1000000 | 0 2000000000 0 2000000000 -1000000 1000000"},
		{2, "2500000000 3000000000 1000000000 -2500000000 -1000000 | -2500000000 3000000000 2500000000 3000000000 -1000000 1000000"},
		{3, "5000000000 1000000000 1000000001 -5000000000 -1000000 | -5000000000 1000000000 5000000000 1000000000 -1000000 1000000"},
		{999999999, "0 1000000000 1999999999 0 -2000000 | 0 1000000000 0 1000000000 -2000000 2000000"},
		{api.MaxStep, "0 2000000000 2000000000 0 -2000000 | 0 2000000000 0 2000000000 -2000000 2000000"},
	} {
		points(t, f, by(1), x.step, 1, x.want+" | [] | 1 5 1")
		points(t, f, by(1), x.step, 3, x.want+" | [] | 1 5 3")
	}
	for _, source := range []string{"v1 a 0 5", "v1 a 0 pulse 0 5 1 2 1 1 8", "v1 a 0 pwl 0 1 1000000000 2", "v1 a 0 table 1 2", "i1 a 0 0"} {
		for _, step := range []int{-1, -2, api.MaxStep + 1, api.MaxStep + 2, 1 << 32, 1<<32 + 1, math.MaxInt, math.MinInt} {
			for _, parts := range []int{1, 2, 64} {
				refuses(t, laid(source+" / r1 a 0 1"), by(1), step, parts, api.ErrRange)
			}
		}
	}
}

// A source on the grid up to its end; one that leaves it is refused there, however little of it the parts are.
func TestSourcesAtTheEndsOfTheGrid(t *testing.T) {
	inParts(t, laid("v1 a 0 1e9 / r1 a 0 1e9"), "1000000000000000000 -1000000000 | -1000000000 1000000000 | []", 1, 2, 0)
	inParts(t, laid("v1 a 0 -1e9 / r1 a 0 1e9"), "-1000000000000000000 1000000000 | 1000000000 -1000000000 | []", 1, 2, 0)
	inParts(t, laid("i1 0 a 1e9 / r1 a 0 1n"), "1000000000 | 1000000000000000000 1000000000000000000 | []", 1, 1, 0)
	for _, source := range []string{"v1 a 0 1.00000001e9", "v1 a 0 -1.00000001e9", "i1 a 0 1.00000001e9", "v1 a 0 pwl 0 0 10 2e9", "i1 a 0 table 0 1 2 3 4 5 -2e9"} {
		for _, parts := range []int{1, 2, 3, 64} {
			refuses(t, laid(source+" / r1 a 0 1"), by(1), 6, parts, api.ErrRange)
			refuses(t, laid(source+" / l1 a 0 1"), by(1), 6, parts, api.ErrRange)
		}
	}
	f := laid("v1 a 0 pwl 0 0 10 2e9 / r1 a 0 1e9")
	points(t, f, by(1), 5, 2, "1000000000000000000 -1000000000 | -1000000000 1000000000 | [] | 1 2 2")
	points(t, f, by(1), 4, 2, "800000000000000000 -800000000 | -800000000 800000000 | [] | 1 2 2")
}

// Numbers just on and just off the grid that the last part reports; what was done is told beside the error.
func TestReportsAtTheEndsOfTheGrid(t *testing.T) {
	offGrid := func(lines string, pivots int) {
		t.Helper()
		for _, parts := range []int{1, 2, 3, 64} {
			points(t, laid(lines), by(8), 0, parts, asError(api.ErrRange, 1, pivots, parts))
		}
	}
	// A node's voltage: one unit beyond, by just a half, by a bit more.
	offGrid("v1 a 0 1e9 / v2 b a 1n / r1 b 0 1e9", 4)
	offGrid("v1 a 0 -1e9 / v2 b a -1n / r1 b 0 1e9", 4)
	inParts(t, laid("v1 a 0 1e9 / v2 d 0 1n / e1 c a d 0 0.5 / r1 d 0 1"), "1000000000000000000 1 1000000000000000000 0 -1 0 | 0 -1 0 1 | []", 1, 6, 0)
	inParts(t, laid("v1 a 0 -1e9 / v2 d 0 1n / e1 c a d 0 -0.5 / r1 d 0 1"), "-1000000000000000000 1 -1000000000000000000 0 -1 0 | 0 -1 0 1 | []", 1, 6, 0)
	offGrid("v1 a 0 1e9 / v2 d 0 1n / e1 c a d 0 0.500001 / r1 d 0 1", 6)
	offGrid("v1 a 0 -1e9 / v2 d 0 1n / e1 c a d 0 -0.500001 / r1 d 0 1", 6)
	// A current: a branch's, one of X too; and one of I alone.
	inParts(t, laid("v1 a 0 1e9 / r1 a 0 1"), "1000000000000000000 -1000000000000000000 | -1000000000000000000 1000000000000000000 | []", 1, 2, 0)
	offGrid("v1 a 0 1e9 / r1 a 0 0.999999999", 2)
	inParts(t, laid("v1 a 0 1e9 / r1 a 0 1 / r2 0 a -1"), "1000000000000000000 0 | 0 1000000000000000000 1000000000000000000 | []", 1, 2, 0)
	offGrid("v1 a 0 1e9 / r1 a 0 0.999999999 / r2 0 a -0.999999999", 2)
}

// A part ahead of the last one may leave the grid: nothing is reported of it.
func TestAPartOffTheGrid(t *testing.T) {
	f := laid("i1 0 a 1 / v1 c 0 2 / s1 a 0 c 0 s / .model s s 0.1n 1 1")
	inParts(t, f, "1000000000 2000000000 0 | 1000000000 0 1000000000 | [1]", 2, 6, 1)
	g := laid("i1 0 a 1 / v1 c 0 2 / s1 a 0 c 0 s / .model s s 0.1n 2 1")
	for _, parts := range []int{1, 2, 3, 64} {
		points(t, g, by(8), 0, parts, asError(api.ErrRange, 1, 3, parts))
	}
}

// Circuits without sources: noughts, but where a diode has a current at 0 V. There is no wave that could refuse a step.
func TestWithoutSources(t *testing.T) {
	f := laid("r1 a b 1 / c1 a 0 1 / l1 b 0 1 / e1 c 0 a b 3 / r2 c a 1")
	inParts(t, f, "0 0 0 0 0 0 | 0 0 0 0 0 | []", 1, 6, 0)
	g := laid("r1 a 0 1 / d1 a 0 d / .model d d 1 -1 2")
	inParts(t, g, "-333333333 | -333333333 333333333 | [1]", 2, 2, 1)
	for _, step := range []int{1, 77, api.MaxStep, api.MaxStep + 1, -1, math.MaxInt, math.MinInt} {
		points(t, f, by(8), step, 2, "0 0 0 0 0 0 | 0 0 0 0 0 | [] | 1 6 2")
		points(t, g, by(8), step, 2, "-333333333 | -333333333 333333333 | [1] | 2 2 3")
		points(t, g, by(1), step, 2, asError(api.ErrNoSegment, 1, 1, 1))
		points(t, laid("r1 a 0 1 / r2 a 0 -1"), by(8), step, 2, asError(api.ErrSingular, 1, 0, 0))
	}
}

// Circuits without unknowns: nothing at all, and devices with both ends at the ground.
func TestWithoutUnknowns(t *testing.T) {
	inParts(t, laid(""), " |  | []", 1, 0, 0)
	inParts(t, api.Flat{Nodes: []string{"0"}, Step: n(1, 0), Method: api.Trap}, " |  | []", 1, 0, 0)
	f := laid("r1 0 0 1 / i1 0 0 2 / d1 0 0 d / s1 0 0 0 0 s / .model d d 1 -2 3 -1 5 1 7 / .model s s 1 0 2")
	inParts(t, f, " | 0 2000000000 6000000000 0 | [2 0]", 3, 0, 2)
	points(t, f, by(2), 0, 64, asError(api.ErrNoSegment, 2, 0, 2))
	refuses(t, f, by(2), -1, 64, api.ErrRange)
	refuses(t, laid(""), by(2), 0, 65, api.ErrArg)
}
