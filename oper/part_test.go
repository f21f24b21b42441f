package oper_test

import (
	"math"
	"math/bits"
	"testing"

	"shunt/api"
	"shunt/oper"
)

// shareMeant is v times k over n rounded, by words of 64 bits.
func shareMeant(v int64, k, n int) int64 {
	size, sign := uint64(v), int64(1)
	if v < 0 {
		size, sign = uint64(-v), -1
	}
	high, low := bits.Mul64(size, uint64(k))
	quotient, rest := bits.Div64(high, low, uint64(n))
	if twice := 2 * rest; twice > uint64(n) || twice == uint64(n) && quotient%2 == 1 {
		quotient++
	}
	return sign * int64(quotient)
}

// values are such on the grid, small ones and such at its ends among them.
func values() []int64 {
	d := dice(1701)
	l := []int64{0}
	for v := int64(1); v <= 130; v++ {
		l = append(l, v, -v)
	}
	for k := range int64(5) {
		l = append(l, edge-k, k-edge, edge/2+k, -edge/2-k, 1<<32+k, 1<<57+k, (1<<63-1)/64+k, (1<<63-1)/10+k)
	}
	for range 30 {
		v := int64(d.next() % (edge + 1))
		l = append(l, v, -v, v>>(d.below(50)))
	}
	return l
}

// P17.1: every k of every n, of many values.
func TestParts(t *testing.T) {
	list := values()
	for n := 1; n <= api.MaxIter; n++ {
		for k := 0; k <= n; k++ {
			for i, v := range list {
				if n > 8 && n < 63 && (i+k+n)%7 > 0 {
					continue
				}
				rounds(t, v, k, n, shareMeant(v, k, n))
			}
			if t.Failed() {
				t.FailNow()
			}
		}
	}
}

// Halves, above and below 0, go to the even one; what is beside them to the nearest.
func TestHalves(t *testing.T) {
	for _, x := range []struct {
		v    int64
		k, n int
		want int64
	}{
		{1, 1, 2, 0}, {3, 1, 2, 2}, {5, 1, 2, 2}, {7, 1, 2, 4}, {9, 1, 2, 4}, {-1, 1, 2, 0}, {-3, 1, 2, -2}, {-5, 1, 2, -2}, {-7, 1, 2, -4}, {-9, 1, 2, -4},
		{1, 2, 4, 0}, {1, 32, 64, 0}, {3, 32, 64, 2}, {-3, 32, 64, -2}, {2, 1, 4, 0}, {6, 1, 4, 2}, {10, 1, 4, 2}, {2, 3, 4, 2}, {6, 3, 4, 4}, {-2, 3, 4, -2}, {-6, 3, 4, -4},
		{1, 1, 4, 0}, {3, 1, 4, 1}, {-3, 1, 4, -1}, {5, 1, 4, 1}, {7, 1, 4, 2}, {1, 3, 4, 1}, {1, 1, 3, 0}, {1, 2, 3, 1}, {-1, 1, 3, 0}, {-1, 2, 3, -1}, {2, 2, 3, 1},
		{32, 1, 64, 0}, {33, 1, 64, 1}, {96, 1, 64, 2}, {95, 1, 64, 1}, {160, 1, 64, 2}, {161, 1, 64, 3}, {-96, 1, 64, -2}, {-160, 1, 64, -2}, {31, 1, 63, 0}, {32, 1, 63, 1},
		{edge - 1, 1, 2, edge / 2}, {edge - 3, 1, 2, edge/2 - 2}, {1 - edge, 1, 2, -edge / 2}, {3 - edge, 1, 2, 2 - edge/2}, {edge - 1, 63, 64, edge/64*63 - 1}, {edge, 63, 64, edge / 64 * 63},
	} {
		rounds(t, x.v, x.k, x.n, x.want)
	}
}

// No part is nothing, all parts are the whole; what lies between rises with k, and never leaves the grid.
func TestFromNothingToTheWhole(t *testing.T) {
	for _, v := range values() {
		for _, n := range []int{1, 2, 3, 63, 64} {
			rounds(t, v, 0, n, 0)
			rounds(t, v, n, n, v)
			for k := 1; k <= n; k++ {
				less, _ := oper.Part(v, k-1, n)
				more, err := oper.Part(v, k, n)
				if err != api.OK || v > 0 && more < less || v < 0 && more > less {
					t.Fatalf("Part(%d, %d, %d): %d behind %d, error %d", v, k, n, more, less, err)
				}
				rounds(t, -v, k, n, -more)
			}
		}
	}
}

// The ends of n, of k and of the grid; of two errors the first one is told.
func TestPartsThatAreNotRight(t *testing.T) {
	for _, v := range []int64{0, 1, -1, 5, edge, -edge, edge + 1, -edge - 1, math.MaxInt64, math.MinInt64} {
		for _, n := range []int{0, -1, -2, -64, 65, 66, 128, 1 << 32, 1<<32 + 1, 1<<32 + 64, math.MaxInt, math.MinInt} {
			for _, k := range []int{-1, 0, 1, n, n - 1, 64} {
				refusesPart(t, v, k, n, api.ErrArg)
			}
		}
		for _, n := range []int{1, 2, 63, 64} {
			for _, k := range []int{-1, -2, -64, n + 1, n + 2, 65, 1 << 32, 1<<32 + 1, math.MaxInt, math.MinInt} {
				refusesPart(t, v, k, n, api.ErrArg)
			}
		}
	}
	for _, v := range []int64{edge + 1, -edge - 1, edge + 2, 2 * edge, -2 * edge, 1 << 62, math.MaxInt64, math.MinInt64} {
		for _, n := range []int{1, 2, 63, 64} {
			for _, k := range []int{0, 1, n - 1, n} {
				refusesPart(t, v, k, n, api.ErrRange)
			}
		}
	}
	for _, n := range []int{1, 64} {
		rounds(t, edge, n, n, edge)
		rounds(t, -edge, n, n, -edge)
		rounds(t, edge, 0, n, 0)
		rounds(t, -edge, 0, n, 0)
	}
}
