package sweep_test

import (
	"fmt"
	"strings"
	"testing"

	"shunt/api"
	"shunt/sweep"
)

// Sweeps of circuits that are known, by what is reported.
func TestKnownCircuits(t *testing.T) {
	for _, x := range []struct {
		lines string
		q     sweep.Range
		want  string
	}{
		{"v1 a 0 5 / r1 a b 1k / r2 b 0 2k", sweep.Range{From: -volt, By: volt, Count: 3}, "-1000000000 -666666667 333333 | 333333 -333333 -333333 | [] ; 0 0 0 | 0 0 0 | [] ; 1000000000 666666667 -333333 | -333333 333333 333333 | [] ; 1 3 3"},
		// Halves go to the even number, below 0 too.
		{"v1 a 0 5 / r1 a b 1 / r2 b 0 1", sweep.Range{From: -3, By: 2, Count: 4}, "-3 -2 2 | 2 -2 -2 | [] ; -1 0 0 | 0 0 0 | [] ; 1 0 0 | 0 0 0 | [] ; 3 2 -2 | -2 2 2 | [] ; 1 3 4"},
		{"i1 0 a 2 / r1 a 0 3", sweep.Range{From: volt, By: -volt, Count: 3}, "3000000000 | 1000000000 1000000000 | [] ; 0 | 0 0 | [] ; -3000000000 | -1000000000 -1000000000 | [] ; 1 1 3"},
		// One source of two; the other one is there at each point.
		{"v1 a 0 5 / i1 0 b 1 / r1 a b 2 / r2 b 0 3", sweep.Range{Dev: 1, From: 0, By: volt, Count: 2}, "5000000000 3000000000 -1000000000 | -1000000000 0 1000000000 1000000000 | [] ; 5000000000 4200000000 -400000000 | -400000000 1000000000 400000000 1400000000 | [] ; 1 3 2"},
		// At rest a capacitor is nothing, and an inductor a wire.
		{"v1 a 0 5 / r1 a b 1 / l1 b c 1m / r2 c 0 1 / c1 b 0 1u", sweep.Range{From: 4, By: 4, Count: 2}, "4 2 2 -2 2 0 | -2 2 2 2 0 | [] ; 8 4 4 -4 4 0 | -4 4 4 4 0 | [] ; 1 6 2"},
		// Amplifiers, and a transformer.
		{"v1 a 0 2 / e1 b 0 a 0 3 / r1 b 0 2 / h1 c 0 v1 4 / r2 a 0 1 / r3 c 0 8", sweep.Range{From: 2, By: 2, Count: 2}, "2 6 -8 -2 -3 1 | -2 -3 3 1 2 -1 | [] ; 4 12 -16 -4 -6 2 | -4 -6 6 2 4 -2 | [] ; 1 6 2"},
		{"v1 a 0 6 / t1 a 0 b 0 3 / r1 b 0 2", sweep.Range{From: 18, By: -36, Count: 2}, "18 6 -1 1 | -1 1 3 | [] ; -18 -6 1 -1 | 1 -1 -3 | [] ; 1 4 2"},
		// A diode one way, and the other.
		{"v1 a 0 0 / r1 a b 1 / d1 b 0 d / .model d d 0 1 1", sweep.Range{From: -3 * volt, By: 3 * volt, Count: 3}, "-3000000000 -3000000000 0 | 0 0 0 | [0] ; 0 0 0 | 0 0 0 | [0] ; 3000000000 2000000000 -1000000000 | -1000000000 1000000000 1000000000 | [1] ; 2 6 4"},
		// Two diodes from both sides at a middle that is led by a current.
		{"i1 0 a 0 / r1 a 0 1 / d1 a 0 d / d2 0 a d / .model d d 0 1 1", sweep.Range{From: -3 * volt, By: 3 * volt, Count: 3}, "-2000000000 | -3000000000 -2000000000 0 1000000000 | [0 1] ; 0 | 0 0 0 0 | [0 0] ; 2000000000 | 3000000000 2000000000 1000000000 0 | [1 0] ; 4 4 6"},
		// A switch that is closed by the range's source, and opened again.
		{"v1 c 0 1 / v2 a 0 10 / s1 a b c 0 s / r1 b 0 9 / .model s s 0 2 1", sweep.Range{From: 3 * volt, By: -2 * volt, Count: 2}, "3000000000 10000000000 9000000000 0 -1000000000 | 0 -1000000000 1000000000 1000000000 | [1] ; 1000000000 10000000000 0 0 0 | 0 0 0 0 | [0] ; 3 15 4"},
	} {
		points(t, laid(x.lines), by(8), x.q, x.want)
	}
}

// At rest neither the circuit's Step nor its Method makes a difference, nor what capacitors and inductors have as values.
func TestAtRestNothingIsOfTime(t *testing.T) {
	for _, model := range []string{"", " / d1 c 0 d / .model d d 1u 0.7 100m"} {
		lines := "v1 a 0 5 / r1 a b 1k / l1 b c 1m / c1 c 0 1u / r2 c 0 7k" + model
		q := sweep.Range{From: -volt, By: volt / 3, Count: 20}
		want := answer(laid(lines), by(8), q)
		if outcome(want) != "ok" {
			t.Fatal(want)
		}
		for _, time := range []string{".step 1", ".step 7e-15 / .method trap", ".method trap"} {
			points(t, laid(time+" / "+lines), by(8), q, want)
		}
		for _, value := range []string{"1m", "-5", "7e9"} {
			points(t, laid(strings.ReplaceAll(strings.ReplaceAll(lines, "1m", value), "c 0 1u", "c 0 "+value)), by(8), q, want)
		}
	}
}

// A switch that holds itself: on the way up it closes at 2 V, on the way down it opens where half of the volts are 2.
func TestASwitchThatHoldsItself(t *testing.T) {
	f := laid("v1 a 0 0 / r1 a b 1 / s1 a b b 0 s / r2 b 0 1 / .model s s 0 2 1")
	closed := func(l []api.State) string {
		text := ""
		for _, s := range l {
			text += fmt.Sprint(s.Segs[0])
		}
		return text
	}
	up, _, _, _ := sweep.Points(f, by(8), sweep.Range{By: volt / 2, Count: 12})
	if got := closed(up); got != "000000000111" {
		t.Error(got)
	}
	down, _, _, _ := sweep.Points(f, by(8), sweep.Range{From: 11 * volt / 2, By: -volt / 2, Count: 12})
	if got := closed(down); got != "111111000000" {
		t.Error(got)
	}
}

// A circuit with as many unknowns as may be, and as many points: each is that of a small one.
func TestAsMuchAsMayBe(t *testing.T) {
	for workers, model := range map[int]string{16: "", 1: " / d1 b 0 d / .model d d 1"} {
		lines := "v1 a 0 5 / r1 a b 1"
		for k := range 45 {
			lines += fmt.Sprintf(" / c%d b 0 1u", k)
		}
		f := laid(lines + model)
		if unknowns(f) != 48 {
			t.Fatal(unknowns(f))
		}
		var want strings.Builder
		for j := range 256 {
			v := 2 * j
			if model == "" {
				want.WriteString(fmt.Sprintf("%d %d %s | %s | [] ; ", v, v, noughts(46), noughts(47)))
				continue
			}
			want.WriteString(fmt.Sprintf("%d %d %d %s | %d %d %s %d | [0] ; ", v, j, -j, noughts(45), -j, j, noughts(45), j))
		}
		points(t, f, api.Options{Limbs: 32, Iter: 1, Workers: workers}, sweep.Range{By: 2, Count: 256}, want.String()+"1 48 256")
	}
}

func noughts(n int) string { return strings.TrimSpace(strings.Repeat("0 ", n)) }

// As many bent devices as may be, nearly: what is reported of each is that of a circuit of its own.
func TestManyBentDevices(t *testing.T) {
	one := "r%d a b%d 1k / d%d b%d 0 d / s%d 0 b%d b%d 0 s"
	models := " / .model d d 1u 0.7 100m 0.72 1 / .model s s 1p %d 1"
	lines := []string{"v1 a 0 0"}
	for k := range 20 {
		lines = append(lines, fmt.Sprintf(one, k, k, k, k, k, k, k))
	}
	f := laid(strings.Join(lines, " / ") + fmt.Sprintf(models, 99))
	q := sweep.Range{By: volt / 2, Count: 12}
	whole, c, at, err := sweep.Points(f, by(3), q)
	own, few, _, _ := sweep.Points(laid("v1 a 0 0 / "+fmt.Sprintf(one, 1, 1, 1, 1, 1, 1, 1)+fmt.Sprintf(models, 99)), by(3), q)
	if err != api.OK || c.Factors != few.Factors || c.Solves != few.Solves || len(whole) != 12 || few.Factors != 3 {
		t.Fatal(c, few, at, err)
	}
	for j, s := range whole {
		for k := range 20 {
			part := []int64{s.X[0], s.X[1+k], s.I[1+3*k], s.I[2+3*k], s.I[3+3*k], int64(s.Segs[2*k]), int64(s.Segs[2*k+1])}
			alone := []int64{own[j].X[0], own[j].X[1], own[j].I[1], own[j].I[2], own[j].I[3], int64(own[j].Segs[0]), int64(own[j].Segs[1])}
			if numbers(part) != numbers(alone) {
				t.Fatal(j, k, part, alone)
			}
		}
	}
}
