package sweep_test

import (
	"fmt"
	"testing"

	"shunt/api"
	"shunt/sweep"
)

// A diode of four segments, held at what v1 says: through it goes 1 A at 1 V, 3 A at 2 V, 6 A at 3 V, and 4 A more for each
// volt beyond.
const stairs = "v1 a 0 0 / d1 a 0 d / .model d d 1 1 2 2 3 3 4"

// through is the current at so many units of the grid; where two segments meet both say the same.
func through(v int64) int64 {
	switch {
	case v <= volt:
		return v
	case v <= 2*volt:
		return volt + 2*(v-volt)
	case v <= 3*volt:
		return 3*volt + 3*(v-2*volt)
	}
	return 6*volt + 4*(v-3*volt)
}

// stairsPoints are what Points answers of it: each point goes from the segment of the one ahead, one segment a choice, until it
// is in one that holds; a segment is made anew where it isn't the last one that was looked at.
func stairsPoints(q sweep.Range, iter int) string {
	text, seg, looked, factors, solves := "", 0, -1, 0, 0
	for j := range q.Count {
		v := q.From + int64(j)*q.By
		for tries := 1; ; tries++ {
			if solves++; seg != looked {
				factors, looked = factors+1, seg
			}
			way := 0
			if v < int64(seg)*volt && seg > 0 {
				way = -1
			}
			if v > int64(seg+1)*volt && seg < 3 {
				way = 1
			}
			if way == 0 {
				break
			}
			if tries == iter {
				return asError(api.ErrNoSegment, j, factors, 2*factors, solves)
			}
			seg += way
		}
		text += fmt.Sprintf("%d %d | %d %d | [%d] ; ", v, -through(v), -through(v), through(v), seg)
	}
	return fmt.Sprintf("%s%d %d %d", text, factors, 2*factors, solves)
}

// A choice that one point finds is where the next one begins, with its plan; and the next one leaves it.
func TestChoicesFromPointToPoint(t *testing.T) {
	f := laid(stairs)
	points(t, f, by(2), sweep.Range{By: volt, Count: 5}, "0 0 | 0 0 | [0] ; 1000000000 -1000000000 | -1000000000 1000000000 | [0] ; 2000000000 -3000000000 | -3000000000 3000000000 | [1] ; "+
		"3000000000 -6000000000 | -6000000000 6000000000 | [2] ; 4000000000 -10000000000 | -10000000000 10000000000 | [3] ; 4 8 8")
	// Down again each segment is held on to up to its end.
	points(t, f, by(4), sweep.Range{From: 4 * volt, By: -volt, Count: 5}, "4000000000 -10000000000 | -10000000000 10000000000 | [3] ; 3000000000 -6000000000 | -6000000000 6000000000 | [3] ; "+
		"2000000000 -3000000000 | -3000000000 3000000000 | [2] ; 1000000000 -1000000000 | -1000000000 1000000000 | [1] ; 0 0 | 0 0 | [0] ; 7 14 11")
	// Too far at once.
	points(t, f, by(3), sweep.Range{From: 1, By: 3 * volt, Count: 5}, asError(api.ErrNoSegment, 1, 3, 6, 4))
	points(t, f, by(1), sweep.Range{From: volt, By: 1, Count: 2}, asError(api.ErrNoSegment, 1, 1, 2, 2))
	points(t, f, by(1), sweep.Range{From: volt + 1, By: -1, Count: 2}, asError(api.ErrNoSegment, 0, 1, 2, 1))
	for iter := 1; iter <= 5; iter++ {
		for from := int64(-9); from <= 9; from++ {
			for step := int64(-9); step <= 9; step++ {
				q := sweep.Range{From: from * volt / 2, By: step * volt / 2, Count: 6}
				points(t, f, by(iter), q, stairsPoints(q, iter))
			}
		}
		for _, step := range []int64{1, -1, volt / 10, -volt / 10, volt / 60} {
			q := sweep.Range{From: volt - 128*step, By: step, Count: 256}
			points(t, f, by(iter), q, stairsPoints(q, iter))
		}
	}
}

// A diode's segments by a source of kind i.
func TestChoicesByACurrent(t *testing.T) {
	f := laid("i1 0 a 0 / d1 a 0 d / .model d d 1 1 2 2 4 3 5")
	points(t, f, by(2), sweep.Range{By: 3 * volt, Count: 4}, "0 | 0 0 | [0] ; 2000000000 | 3000000000 3000000000 | [1] ; 2750000000 | 6000000000 6000000000 | [2] ; 3400000000 | 9000000000 9000000000 | [3] ; 4 4 7")
	points(t, f, by(1), sweep.Range{By: 3 * volt, Count: 4}, asError(api.ErrNoSegment, 1, 1, 1, 2))
	points(t, f, by(3), sweep.Range{By: 6 * volt, Count: 3}, "0 | 0 0 | [0] ; 2750000000 | 6000000000 6000000000 | [2] ; 4000000000 | 12000000000 12000000000 | [3] ; 4 4 6")
}

// Two choices hold at 3 V: which one is found hangs on the point ahead.
func TestPointsThatLeadElsewhere(t *testing.T) {
	f := laid("v1 a 0 0 / r1 a b 1 / s1 b 0 a 0 s / s2 b 0 b 0 z / .model s s 0 1 1 / .model z s 0 2 -1")
	at3 := "3000000000 3000000000 0 | 0 0 3000000000 -3000000000 | [1 1] ; "
	else3 := "3000000000 1500000000 -1500000000 | -1500000000 1500000000 1500000000 0 | [1 0] ; "
	at0 := "0 0 0 | 0 0 0 0 | [0 0] ; "
	half := "1500000000 750000000 -750000000 | -750000000 750000000 750000000 0 | [1 0] ; "
	points(t, f, by(8), sweep.Range{From: 3 * volt, Count: 1}, at3+"2 6 2")
	points(t, f, by(8), sweep.Range{From: 3 * volt, Count: 3}, at3+at3+at3+"2 6 4")
	points(t, f, by(8), sweep.Range{By: 3 * volt, Count: 2}, at0+at3+"2 6 3")
	points(t, f, by(8), sweep.Range{By: 3 * volt / 2, Count: 3}, at0+half+else3+"2 6 4")
	points(t, f, by(8), sweep.Range{From: 3 * volt, By: -3 * volt / 2, Count: 3}, at3+half+at0+"4 12 6")
}

// A choice without a solution that a wide step meets, and small ones don't; and the other way round.
func TestSingularOnTheWay(t *testing.T) {
	f := laid("v1 a 0 0 / r1 a b 1 / s1 b 0 a 0 s / s2 b 0 b 0 z / .model s s 0 1 1 / .model z s 0 2 -2")
	points(t, f, by(8), sweep.Range{By: 3 * volt, Count: 2}, asError(api.ErrSingular, 1, 2, 5, 2))
	points(t, f, by(8), sweep.Range{By: 3 * volt / 2, Count: 3}, "0 0 0 | 0 0 0 0 | [0 0] ; 1500000000 750000000 -750000000 | -750000000 750000000 750000000 0 | [1 0] ; "+
		"3000000000 1500000000 -1500000000 | -1500000000 1500000000 1500000000 0 | [1 0] ; 2 6 4")
	g := laid("v1 a 0 0 / r1 a b 1 / s1 b 0 a 0 s / s2 b 0 a 0 z / .model s s 0 1 -1 / .model z s 0 2 1")
	points(t, g, by(8), sweep.Range{By: 3 * volt, Count: 2}, "0 0 0 | 0 0 0 0 | [0 0] ; 3000000000 3000000000 0 | 0 0 -3000000000 3000000000 | [1 1] ; 2 6 3")
	points(t, g, by(8), sweep.Range{By: 3 * volt / 2, Count: 3}, asError(api.ErrSingular, 1, 2, 5, 2))
	points(t, g, by(8), sweep.Range{From: 3 * volt, By: -3 * volt / 2, Count: 3}, asError(api.ErrSingular, 1, 3, 8, 3))
	points(t, g, by(8), sweep.Range{From: 3 * volt, By: -3 * volt, Count: 2}, "3000000000 3000000000 0 | 0 0 -3000000000 3000000000 | [1 1] ; 0 0 0 | 0 0 0 0 | [0 0] ; 3 9 4")
}

// A circuit in which no choice holds at one point alone, with points ahead of it and behind it that have one.
func TestNoSegmentInTheMiddle(t *testing.T) {
	// A switch that opens as soon as it is closed, from 2.5 V to 5 V.
	f := laid("v1 a 0 5 / r1 a b 1k / s1 b 0 b 0 s / .model s s 1n 2.5 1m")
	points(t, f, by(8), sweep.Range{From: 2 * volt, By: 2 * volt, Count: 3}, asError(api.ErrNoSegment, 1, 8, 24, 9))
	points(t, f, by(8), sweep.Range{From: 6 * volt, By: -2 * volt, Count: 3}, asError(api.ErrNoSegment, 1, 9, 27, 10))
	points(t, f, by(8), sweep.Range{From: 2 * volt, By: 4 * volt, Count: 2}, "2000000000 1999998000 -2 | -2 2 2 | [0] ; 6000000000 3000000000 -3000000 | -3000000 3000000 3000000 | [1] ; 2 6 3")
	for iter := 1; iter <= 64; iter++ {
		points(t, f, by(iter), sweep.Range{From: 2 * volt, By: volt, Count: 256}, asError(api.ErrNoSegment, 1, iter, 3*iter, 1+iter))
	}
}
