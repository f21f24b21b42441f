package wave_test

import (
	"testing"

	"shunt/api"
)

// The chapter's table, row by row.

func TestExampleDC(t *testing.T) {
	says(t, dc(n(5, 0)), 7, 5000000000)
	straight(t, dc(n(5, 0)), 0)
	silent(t, dc(n(5, 0)), -1, api.ErrRange)
	silent(t, dc(n(11, 8)), 0, api.ErrRange)
}

func TestExamplePulse(t *testing.T) {
	p := pulse(n(0, 0), n(1, 0), 2, 2, 1, 1, 6)
	for step, want := range []int64{0, 0, 0, 500000000, 1000000000, 1000000000, 0, 0, 0, 500000000} {
		says(t, p, step, want)
	}
	for _, c := range [][2]int{{0, 2}, {2, 4}, {4, 5}, {5, 6}, {6, 8}} {
		turns(t, p, c[0], c[1])
	}
	silent(t, pulse(n(0, 0), n(1, 0), 2, 0, 0, 0, 0), 0, api.ErrWave)
}

func TestExamplePwl(t *testing.T) {
	w := pwl(volts(0, 1), 1, 4)
	says(t, w, 2, 333333333)
	says(t, w, 0, 0)
	says(t, w, 9, 1000000000)
	straight(t, w, 4)
}

func TestExampleTable(t *testing.T) {
	w := table(volts(3, 1, 2)...)
	says(t, w, 4, 1000000000)
	turns(t, w, 4, 5)
}
