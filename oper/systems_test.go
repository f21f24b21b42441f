package oper_test

import (
	"fmt"
	"slices"
	"strings"
	"testing"

	"shunt/api"
	"shunt/oper"
)

// Operating points that are known, by what is reported; in one part and in several.
func TestKnownCircuits(t *testing.T) {
	for _, x := range []struct{ lines, want string }{
		{"v1 a 0 5 / r1 a b 1k / r2 b 0 2k", "5000000000 3333333333 -1666667 | -1666667 1666667 1666667 | []"},
		{"i1 0 a 2 / r1 a 0 3", "6000000000 | 2000000000 2000000000 | []"},
		{"v1 a 0 5 / r1 a b 1k / d1 b 0 d / .model d d 1u 0.7 100m", "5000000000 742567327 -4257433 | -4257433 4257433 4257433 | [1]"},
		// The other way round the diode lets through what its first segment does.
		{"v1 a 0 -5 / r1 a b 1k / d1 b 0 d / .model d d 1u 0.7 100m", "-5000000000 -4995004995 4995 | 4995 -4995 -4995 | [0]"},
		{"i1 0 a 2 / d1 a 0 d / d2 a 0 d / .model d d 0.1 1 1", "1900000000 | 2000000000 1000000000 1000000000 | [1 1]"},
		// A switch that is open, and one that is closed.
		{"v1 c 0 1 / v2 a 0 10 / s1 a b c 0 s / r1 b 0 9 / .model s s 0 2 1", "1000000000 10000000000 0 0 0 | 0 0 0 0 | [0]"},
		{"v1 c 0 3 / v2 a 0 10 / s1 a b c 0 s / r1 b 0 9 / .model s s 0 2 1", "3000000000 10000000000 9000000000 0 -1000000000 | 0 -1000000000 1000000000 1000000000 | [1]"},
		// At rest a capacitor is nothing, and an inductor a wire; each still has its place among the unknowns.
		{"v1 a 0 5 / r1 a b 1k / l1 b c 1m / r2 c 0 1k / c1 c 0 1u / c2 a b -3u", "5000000000 2500000000 2500000000 -2500000 2500000 0 0 | -2500000 2500000 2500000 2500000 0 0 | []"},
		{"v1 a 0 5n / r1 a b 1 / l1 b c 1m / r2 c 0 1 / c1 b a 1", "5 2 2 -2 2 0 | -2 2 2 2 0 | []"},
		{"i1 0 a 2 / l1 a b 1m / d1 b c d / l2 c 0 -1m / c1 c a 1u / .model d d 1 -1 2", "500000000 500000000 0 2000000000 2000000000 0 | 2000000000 2000000000 2000000000 2000000000 0 | [1]"},
		// Amplifiers, and a transformer.
		{"v1 a 0 2 / e1 b 0 a 0 3 / r1 b 0 2 / h1 c 0 v1 4 / r2 a 0 1 / r3 c 0 8", "2000000000 6000000000 -8000000000 -2000000000 -3000000000 1000000000 | -2000000000 -3000000000 3000000000 1000000000 2000000000 -1000000000 | []"},
		{"v1 a 0 2 / r1 a 0 1 / f1 0 b v1 3 / r2 b 0 1 / g1 c 0 a b 2 / r3 c 0 4", "2000000000 -6000000000 -64000000000 -2000000000 | -2000000000 2000000000 -6000000000 -6000000000 16000000000 -16000000000 | []"},
		{"v1 a 0 6 / t1 a 0 b 0 3 / r1 b 0 2", "6000000000 2000000000 -333333333 333333333 | -333333333 333333333 1000000000 | []"},
	} {
		for _, parts := range []int{1, 2, 3, 64} {
			got := answer(laid(x.lines), by(8), 0, parts)
			if state := got[:strings.LastIndex(got, " | ")]; state != x.want {
				t.Errorf("%s: in %d parts %s, not %s", x.lines, parts, state, x.want)
			}
		}
	}
}

// At rest neither the circuit's Step nor its Method makes a difference, nor what capacitors and inductors have as values.
func TestAtRestNothingIsOfTime(t *testing.T) {
	lines := "v1 a 0 5 / r1 a b 1k / l1 b c 1m / d1 c 0 d / c1 c 0 1u / .model d d 1u 0.7 100m"
	want := answer(laid(lines), by(8), 4, 3)
	for _, time := range []string{".step 1", ".step 7e-15 / .method trap", ".method trap"} {
		points(t, laid(time+" / "+lines), by(8), 4, 3, want)
	}
	for _, value := range []string{"1m", "-5", "7e9"} {
		points(t, laid(strings.ReplaceAll(strings.ReplaceAll(lines, "1m", value), "1u /", value+" /")), by(8), 4, 3, want)
	}
}

// A circuit with as many devices as may be, nearly: what is reported of it is that of its parts.
func TestAsMuchAsMayBe(t *testing.T) {
	one := "v%d a%d 0 %d / r%d a%d b%d 1k / d%d b%d 0 d / s%d 0 b%d b%d 0 s"
	models := " / .model d d 1u 0.7 100m / .model s s 1p 99 1"
	var lines []string
	for k := range 15 {
		lines = append(lines, fmt.Sprintf(one, k, k, k, k, k, k, k, k, k, k, k))
	}
	f := laid(strings.Join(lines, " / ") + models)
	if len(f.Devs) != 60 || unknowns(f) != 45 {
		t.Fatal(len(f.Devs), unknowns(f))
	}
	for _, parts := range []int{1, 2, 8} {
		s, c, err := oper.Point(f, by(2), 0, parts)
		if err != api.OK || parts == 1 && countsText(c) != "2 90 2" {
			t.Fatal(parts, c, err)
		}
		for k := range 15 {
			own, _, err := oper.Point(laid(fmt.Sprintf(one, 1, 1, k, 1, 1, 1, 1, 1, 1, 1, 1)+models), by(2), 0, parts)
			whole := api.State{X: []int64{s.X[2*k], s.X[2*k+1], s.X[30+k]}, I: s.I[4*k : 4*k+4], Segs: s.Segs[2*k : 2*k+2]}
			if err != api.OK || stateText(whole) != stateText(own) {
				t.Fatal(k, parts, stateText(whole), stateText(own), err)
			}
		}
	}
	// 48 unknowns are as many as may be.
	big := "v1 a 0 5 / r1 a b 1k"
	for k := range 45 {
		big += fmt.Sprintf(" / c%d b 0 1u", k)
	}
	f = laid(big)
	x := slices.Concat([]int64{5000000000, 5000000000}, make([]int64, 46))
	points(t, f, by(1), 0, 64, numbers(x)+" | "+numbers(make([]int64, 47))+" | [] | 1 48 64")
}
