package sweep_test

import (
	"fmt"
	"math"
	"strings"
	"testing"

	"shunt/api"
	"shunt/sweep"
)

// narrow are right options of so few limbs.
func narrow(limbs int) api.Options { return api.Options{Limbs: limbs, Iter: 8, Workers: 2} }

// plain holds a node: what is reported of it is the range's value itself, and its source's current.
const plain = "v1 a 0 5 / r1 a 0 1"

// plainPoints are what Points answers of it.
func plainPoints(q sweep.Range) string {
	text := ""
	for j := range q.Count {
		v := q.From + int64(j)*q.By
		text += fmt.Sprintf("%d %d | %d %d | [] ; ", v, -v, -v, v)
	}
	return fmt.Sprint(text, "1 2 ", q.Count)
}

// Which devices a range is over: sources of both kinds, at all places.
func TestWhichDevices(t *testing.T) {
	first := "0 0 | 0 0 | [] ; "
	points(t, laid("v1 a 0 5 / r1 a 0 1"), by(1), sweep.Range{Dev: 0, By: 7, Count: 2}, first+"7 -7 | -7 7 | [] ; 1 2 2")
	points(t, laid("r1 a 0 1 / v1 a 0 5"), by(1), sweep.Range{Dev: 1, By: 7, Count: 2}, first+"7 -7 | 7 -7 | [] ; 1 2 2")
	points(t, laid("i1 0 a 5 / r1 a 0 1"), by(1), sweep.Range{Dev: 0, By: 7, Count: 2}, "0 | 0 0 | [] ; 7 | 7 7 | [] ; 1 1 2")
	points(t, laid("r1 a 0 1 / i1 0 a 5"), by(1), sweep.Range{Dev: 1, By: 7, Count: 2}, "0 | 0 0 | [] ; 7 | 7 7 | [] ; 1 1 2")
	for lines, count := range map[string]int{"v1 a 0 5 / r1 a 0 1": 2, "r1 a 0 1 / i1 0 a 5": 2, divider: 3, diode: 3} {
		for _, place := range []int{-1, -2, count, count + 1, 64, 1 << 32, math.MaxInt, math.MinInt} {
			refuses(t, laid(lines), by(8), sweep.Range{Dev: place, Count: 1}, api.ErrArg)
		}
	}
	// The base has a device of every kind: its sources are those of the places 0 and 4.
	for place, x := range base().Devs {
		q := sweep.Range{Dev: place, By: 7, Count: 2}
		if place == 0 || place == 4 {
			points(t, base(), by(8), q, meant(base(), by(8), q))
			continue
		}
		if x.Kind == 'v' || x.Kind == 'i' {
			t.Fatal(place)
		}
		refuses(t, base(), by(8), q, api.ErrArg)
	}
	// The last of as many devices as may be.
	many := "v0 a 0 0"
	for k := 1; k < api.MaxDevs; k++ {
		many += fmt.Sprintf(" / i%d 0 a %dn", k, k)
	}
	points(t, laid(many), by(1), sweep.Range{Dev: 63, From: 8, By: 1, Count: 1}, fmt.Sprintf("0 1961 | 1961 %s8 | [] ; 1 2 1", countedUp(62)))
	refuses(t, laid(many), by(1), sweep.Range{Dev: 64, From: 8, By: 1, Count: 1}, api.ErrArg)
}

// countedUp are the numbers from 1 to n, each with a blank behind it.
func countedUp(n int) string {
	text := ""
	for k := 1; k <= n; k++ {
		text += fmt.Sprint(k, " ")
	}
	return text
}

// How many points there may be: 1 to 256, with bent devices and without.
func TestHowManyPoints(t *testing.T) {
	f, g := laid(plain), laid("v1 a 0 5 / r1 a 0 1 / d1 0 0 d / .model d d 1")
	for count := 1; count <= 256; count += 1 + count/16 {
		q := sweep.Range{From: -3, By: 5, Count: count}
		points(t, f, by(1), q, plainPoints(q))
		l, c, at, err := sweep.Points(g, by(1), q)
		if len(l) != count || countsText(c) != fmt.Sprint("1 2 ", count) || at != 0 || err != api.OK || l[count-1].Step != count-1 || l[count-1].X[0] != int64(5*count-8) {
			t.Fatal(count, len(l), c, at, err)
		}
	}
	q := sweep.Range{From: -3, By: 5, Count: 256}
	points(t, f, by(1), q, plainPoints(q))
	points(t, g, by(1), q, strings.ReplaceAll(plainPoints(q), " | []", " 0 | [0]"))
	for _, count := range []int{0, -1, -256, 257, 258, 512, 1 << 32, 1<<32 + 1, 1<<32 + 256, math.MaxInt, math.MinInt} {
		for _, step := range []int64{0, 1, math.MaxInt64} {
			refuses(t, f, by(1), sweep.Range{From: 1, By: step, Count: count}, api.ErrArg)
			refuses(t, g, by(1), sweep.Range{From: 1, By: step, Count: count}, api.ErrArg)
		}
	}
}

// By 0, above and below 0: the same value many times, rising and falling ones.
func TestRangesThatStandRiseAndFall(t *testing.T) {
	for _, step := range []int64{0, 1, -1, 7, -7, volt, -volt, edge / 10, -edge / 10} {
		for _, from := range []int64{0, 5, -5} {
			for _, count := range []int{1, 2, 3, 10} {
				q := sweep.Range{From: from, By: step, Count: count}
				points(t, laid(plain), by(1), q, plainPoints(q))
			}
		}
	}
}

// Ranges whose first or last value is just on the grid.
func TestValuesJustOnTheGrid(t *testing.T) {
	for _, q := range []sweep.Range{
		{From: edge, Count: 1}, {From: -edge, Count: 1}, {From: edge, Count: 256}, {From: -edge, Count: 256},
		{From: edge, By: math.MaxInt64, Count: 1}, {From: -edge, By: math.MinInt64, Count: 1}, {From: 5, By: math.MinInt64, Count: 1},
		{From: edge - 1, By: 1, Count: 2}, {From: edge - 255, By: 1, Count: 256}, {From: 1 - edge, By: -1, Count: 2}, {From: 255 - edge, By: -1, Count: 256},
		{From: -edge, By: edge, Count: 3}, {From: edge, By: -edge, Count: 3}, {From: -edge, By: 2 * edge, Count: 2}, {From: edge, By: -2 * edge, Count: 2},
		{From: 0, By: edge, Count: 2}, {From: 0, By: -edge, Count: 2}, {From: -edge, By: edge / 100, Count: 201}, {From: edge - 255*3, By: 3, Count: 256},
	} {
		points(t, laid(plain), by(1), q, plainPoints(q))
	}
}

// Ranges whose first, last or only value in between is just off the grid, or whose numbers pass an int64 and come back.
func TestValuesJustOffTheGrid(t *testing.T) {
	for _, q := range []sweep.Range{
		{From: edge + 1, Count: 1}, {From: -edge - 1, Count: 1}, {From: edge + 1, By: -1, Count: 2}, {From: -edge - 1, By: 1, Count: 256},
		{From: edge, By: 1, Count: 2}, {From: -edge, By: -1, Count: 2}, {From: edge - 254, By: 1, Count: 256}, {From: 254 - edge, By: -1, Count: 256},
		{From: -edge, By: edge + 1, Count: 3}, {From: edge, By: -edge - 1, Count: 3}, {From: -edge, By: 2*edge + 1, Count: 2}, {From: edge, By: -2*edge - 1, Count: 2},
		{From: -edge, By: edge, Count: 4}, {From: 1, By: edge, Count: 2}, {From: -1, By: -edge, Count: 2}, {From: -edge, By: edge / 100, Count: 202},
		{From: 0, By: math.MaxInt64, Count: 2}, {From: 0, By: math.MinInt64, Count: 2}, {From: edge, By: math.MaxInt64, Count: 2}, {From: -edge, By: math.MinInt64, Count: 2},
		// Those that would be back on the grid, if what is beyond an int64 were left away.
		{From: 5, By: math.MinInt64, Count: 3}, {From: 5, By: 1 << 62, Count: 5}, {From: 5, By: -1 << 62, Count: 5}, {From: 5, By: 1 << 57, Count: 129}, {From: -edge, By: math.MaxInt64, Count: 3},
		{From: -5, By: math.MaxInt64, Count: 255}, {From: math.MaxInt64, By: math.MaxInt64, Count: 5}, {From: math.MinInt64, By: math.MinInt64, Count: 2}, {From: math.MinInt64, By: 1 << 62, Count: 3},
	} {
		for _, lines := range []string{plain, divider, diode, "i1 0 a 1 / r1 a 0 1"} {
			refuses(t, laid(lines), by(8), q, api.ErrRange)
		}
	}
}

// All other sources say what they say at the step 0; what the range's own says then makes no difference.
func TestOthersAreHeldAtTheFirstStep(t *testing.T) {
	lines := "v1 a 0 pulse 0 5 1 2 1 1 8 / i1 0 b table 1 2 3 / r1 a 0 1 / r2 b 0 1 / v2 c 0 pwl 2 1 1000000000 2 / r3 c 0 1k / i2 0 c pulse 3 5 0 2 1 1 8"
	points(t, laid(lines), by(1), sweep.Range{Dev: 0, From: 4, By: 1, Count: 2},
		"4 1000000000 1000000000 -4 2999000000 | -4 1000000000 4 1000000000 2999000000 1000000 3000000000 | [] ; 5 1000000000 1000000000 -5 2999000000 | -5 1000000000 5 1000000000 2999000000 1000000 3000000000 | [] ; 1 5 2")
	points(t, laid(lines), by(1), sweep.Range{Dev: 1, From: 4, By: 1, Count: 1}, "0 4 1000000000 0 2999000000 | 0 4 0 4 2999000000 1000000 3000000000 | [] ; 1 5 1")
	points(t, laid(lines), by(1), sweep.Range{Dev: 4, From: 4000, By: 1, Count: 1}, "0 1000000000 4000 0 2999999996 | 0 1000000000 0 1000000000 2999999996 4 3000000000 | [] ; 1 5 1")
	points(t, laid(lines), by(1), sweep.Range{Dev: 6, From: 4, By: 1, Count: 1}, "0 1000000000 1000000000 0 -999996 | 0 1000000000 0 1000000000 -999996 1000000 4 | [] ; 1 5 1")
	// Off the grid at later steps alone, and at the step 0, also of the range's source.
	q := sweep.Range{Dev: 0, From: 4, By: 1, Count: 1}
	points(t, laid("v1 a 0 table 1 2e9 / i1 0 a pwl 0 0 10 2e9 / r1 a 0 1"), by(1), q, "4 -4 | -4 0 4 | [] ; 1 2 1")
	refuses(t, laid("v1 a 0 table 1 2e9 / i1 0 a pwl 0 2e9 10 1 / r1 a 0 1"), by(1), q, api.ErrRange)
	refuses(t, laid("v1 a 0 table 2e9 1 / i1 0 a pwl 0 1 10 1 / r1 a 0 1"), by(1), q, api.ErrRange)
	refuses(t, laid("v1 a 0 1 / i1 0 a 1.00000001e9 / d1 a 0 d / .model d d 1"), by(1), q, api.ErrRange)
	points(t, laid("v1 a 0 1 / i1 0 a 1e9 / r1 a 0 1"), by(1), q, "4 999999999999999996 | 999999999999999996 1000000000000000000 4 | [] ; 1 2 1")
}

// Circuits that have no solution have none at the first point; what was done is told.
func TestWithoutASolution(t *testing.T) {
	for _, x := range []struct {
		lines  string
		pivots int
	}{{"i1 a 0 1", 0}, {"v1 a 0 1 / v2 a 0 1", 2}, {"v1 a 0 1 / l1 a 0 1", 2}, {"v1 a 0 1 / c1 a b 1", 3}, {"v1 a 0 0 / r1 b 0 1 / r2 b 0 -1", 2}, {"v1 0 0 0", 0}, {"v1 a a 0 / r1 a 0 1", 1}} {
		for _, count := range []int{1, 2, 256} {
			for _, workers := range []int{1, 16} {
				o := api.Options{Limbs: 32, Iter: 1, Workers: workers}
				points(t, laid(x.lines), o, sweep.Range{By: 1, Count: count}, asError(api.ErrSingular, 0, 1, x.pivots, 0))
			}
		}
		points(t, laid(x.lines+" / d1 0 0 d / .model d d 1"), by(1), sweep.Range{By: 1, Count: 9}, asError(api.ErrSingular, 0, 1, x.pivots, 0))
	}
}

// Numbers of more limbs than are allowed: in the matrix, or in the right side of a point in the middle.
func TestWidePoints(t *testing.T) {
	wide := laid("v1 a 0 5 / r1 a b 999999937 / r2 b c 999999929 / r3 c 0 999999893")
	points(t, wide, narrow(1), sweep.Range{By: 1, Count: 9}, asError(api.ErrWide, 0, 1, 1, 0))
	f := laid(plain)
	points(t, f, narrow(1), sweep.Range{By: volt, Count: 9}, asError(api.ErrWide, 5, 1, 2, 9))
	points(t, f, narrow(1), sweep.Range{By: volt, Count: 256}, asError(api.ErrWide, 5, 1, 2, 256))
	points(t, f, narrow(1), sweep.Range{From: 7 * volt, By: -volt, Count: 9}, asError(api.ErrWide, 0, 1, 2, 9))
	points(t, f, narrow(1), sweep.Range{From: -4 * volt, By: -volt, Count: 9}, asError(api.ErrWide, 1, 1, 2, 9))
	q := sweep.Range{From: 4294967295 - 255, By: 1, Count: 256}
	points(t, f, narrow(1), q, plainPoints(q))
	q.From++
	points(t, f, narrow(1), q, asError(api.ErrWide, 255, 1, 2, 256))
	points(t, f, narrow(2), q, plainPoints(q))
	// With bent devices nothing is done behind such a point: in the right side, or in the matrix of a choice.
	g := laid("v1 a 0 0.1 / r1 a 0 1 / d1 a 0 d / .model d d 1 0.05 1p")
	points(t, g, narrow(1), sweep.Range{By: -volt, Count: 9}, asError(api.ErrWide, 3, 1, 2, 4))
	points(t, g, narrow(1), sweep.Range{By: volt / 40, Count: 9}, asError(api.ErrWide, 3, 2, 2, 4))
	points(t, g, narrow(1), sweep.Range{From: -volt / 40, By: volt / 40, Count: 4}, "-25000000 50000000 | 50000000 -25000000 -25000000 | [0] ; 0 0 | 0 0 0 | [0] ; 25000000 -50000000 | -50000000 25000000 25000000 | [0] ; 50000000 -100000000 | -100000000 50000000 50000000 | [0] ; 1 2 4")
}

// Points just on and just off the grid: none is told beside one that is off, though its solution is there.
func TestReportsAtTheEndsOfTheGrid(t *testing.T) {
	// A current of X, and one of I alone.
	for _, x := range []struct {
		lines  string
		pivots int
	}{{"v1 a 0 5 / r1 a 0 0.1", 2}, {"v1 a 0 5 / r1 a 0 0.1 / r2 0 a -0.1", 2}, {"i1 0 a 5 / r1 a 0 10", 1}} {
		f, g := laid(x.lines), laid(x.lines+" / d1 0 0 d / .model d d 1")
		for _, sign := range []int64{1, -1} {
			q := sweep.Range{By: sign * edge / 20, Count: 5}
			points(t, f, by(1), q, asError(api.ErrRange, 3, 1, x.pivots, 5))
			points(t, g, by(1), q, asError(api.ErrRange, 3, 1, x.pivots, 4))
			q = sweep.Range{From: sign * edge / 10, By: sign, Count: 3}
			points(t, f, by(1), q, asError(api.ErrRange, 1, 1, x.pivots, 3))
			points(t, g, by(1), q, asError(api.ErrRange, 1, 1, x.pivots, 2))
			q = sweep.Range{From: sign*edge/10 + sign, By: -sign, Count: 3}
			points(t, f, by(1), q, asError(api.ErrRange, 0, 1, x.pivots, 3))
			points(t, g, by(1), q, asError(api.ErrRange, 0, 1, x.pivots, 1))
			q = sweep.Range{From: sign * edge / 10, By: -sign, Count: 3}
			for _, on := range []api.Flat{f, g} {
				if got := answer(on, by(1), q); outcome(got) != "ok" || got != meant(on, by(1), q) {
					t.Errorf("%s: %s", x.lines, got)
				}
			}
		}
	}
	// By just a half, which is rounded to the even one, and by more.
	half := "v1 a 0 0 / v2 d 0 1n / e1 c a d 0 "
	q := sweep.Range{From: edge - 1, By: 1, Count: 2}
	points(t, laid(half+"0.5"), by(1), q, "999999999999999999 1 1000000000000000000 0 0 0 | 0 0 0 | [] ; 1000000000000000000 1 1000000000000000000 0 0 0 | 0 0 0 | [] ; 1 6 2")
	points(t, laid(half+"0.500001"), by(1), q, asError(api.ErrRange, 1, 1, 6, 2))
}

// The currents of three diodes are beyond the grid together at 1.5 V, and nothing at 1 and at 2 V.
func TestOffTheGridInTheMiddleAlone(t *testing.T) {
	f := laid("v1 a 0 0 / d1 a 0 d / d2 a 0 d / d3 a 0 d / .model d d 0 1 1e9 1.5 -1e9 2 0")
	points(t, f, by(8), sweep.Range{From: volt, By: volt / 2, Count: 3}, asError(api.ErrRange, 1, 2, 4, 3))
	points(t, f, by(8), sweep.Range{From: volt, By: volt, Count: 2}, "1000000000 0 | 0 0 0 0 | [0 0 0] ; 2000000000 0 | 0 0 0 0 | [2 2 2] ; 3 6 4")
	points(t, f, by(8), sweep.Range{From: 2 * volt, By: -volt, Count: 2}, "2000000000 0 | 0 0 0 0 | [2 2 2] ; 1000000000 0 | 0 0 0 0 | [1 1 1] ; 4 8 5")
	points(t, f, by(2), sweep.Range{From: volt, By: volt, Count: 2}, asError(api.ErrNoSegment, 1, 2, 4, 3))
}

// Circuits without unknowns: devices with both ends at the ground.
func TestWithoutUnknowns(t *testing.T) {
	points(t, laid("r1 0 0 1 / i1 0 0 2"), by(1), sweep.Range{Dev: 1, From: 7, By: 2, Count: 3}, " | 0 7 | [] ;  | 0 9 | [] ;  | 0 11 | [] ; 1 0 3")
	f := laid("i1 0 0 2 / d1 0 0 d / .model d d 1 -2 3 -1 5 1 7")
	points(t, f, by(3), sweep.Range{From: 7, By: 2, Count: 2}, " | 7 6000000000 | [2] ;  | 9 6000000000 | [2] ; 3 0 4")
	points(t, f, by(2), sweep.Range{From: 7, By: 2, Count: 2}, asError(api.ErrNoSegment, 0, 2, 0, 2))
}
