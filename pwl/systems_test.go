package pwl_test

import (
	"fmt"
	"slices"
	"strconv"
	"strings"
	"testing"

	"shunt/api"
	"shunt/plan"
	"shunt/pwl"
)

// Circuits at rest that are known, by what is reported of them.
func TestKnownCircuits(t *testing.T) {
	for _, x := range []struct {
		lines   string
		segs    []int
		volts   string
		amperes string
	}{
		{"v1 a 0 5 / r1 a b 1k / r2 b 0 2k", nil, "5000000000 3333333333 -1666667", "-1666667 1666667 1666667"},
		{"i1 0 a 2 / r1 a 0 3", nil, "6000000000", "2000000000 2000000000"},
		{theDiode, []int{0}, "5000000000 742567327 -4257433", "-4257433 4257433 4257433"},
		// The other way round the diode lets through what its first segment does.
		{"v1 a 0 -5 / r1 a b 1k / d1 b 0 d / .model d d 1u 0.7 100m", []int{1}, "-5000000000 -4995004995 4995", "4995 -4995 -4995"},
		// Two diodes beside one another share the current; a switch shuts one of them off.
		{"i1 0 a 2 / d1 a 0 d / d2 a 0 d / .model d d 0 1 1", []int{1, 1}, "2000000000", "2000000000 1000000000 1000000000"},
		{"v1 c 0 3 / v2 a 0 10 / s1 a b c 0 s / r1 b 0 9 / .model s s 0 2 1", []int{0}, "3000000000 10000000000 9000000000 0 -1000000000", "0 -1000000000 1000000000 1000000000"},
		{"v1 c 0 1 / v2 a 0 10 / s1 a b c 0 s / r1 b 0 9 / .model s s 0 2 1", []int{1}, "1000000000 10000000000 0 0 0", "0 0 0 0"},
		// All kinds that have a branch, or none: their currents from A to B.
		{"v1 a 0 2 / e1 b 0 a 0 3 / r1 b 0 2 / h1 c 0 v1 4 / r2 a 0 1 / r3 c 0 8", nil, "2000000000 6000000000 -8000000000 -2000000000 -3000000000 1000000000", "-2000000000 -3000000000 3000000000 1000000000 2000000000 -1000000000"},
		{"v1 a 0 2 / r1 a 0 1 / f1 0 b v1 3 / r2 b 0 1 / g1 c 0 a b 2 / r3 c 0 4 / l1 a d 1 / c1 d 0 1 / r4 d 0 2", nil,
			"2000000000 -9000000000 -88000000000 2000000000 -3000000000 1000000000 0", "-3000000000 2000000000 -9000000000 -9000000000 22000000000 -22000000000 1000000000 0 1000000000"},
		{"v1 a 0 6 / t1 a 0 b 0 3 / r1 b 0 2", nil, "6000000000 2000000000 -333333333 333333333", "-333333333 333333333 1000000000"},
	} {
		volts, amperes := reported(t, x.lines, x.segs...)
		if volts != x.volts || amperes != x.amperes {
			t.Errorf("%s: %s, %s, not %s, %s", x.lines, volts, amperes, x.volts, x.amperes)
		}
	}
}

// Time, step by step from what was reported: a capacitor is loaded through a diode, whose plan is kept as long as it lets
// through, and stays loaded when the source falls.
func TestStepsOfTime(t *testing.T) {
	f := laid("v1 a 0 4 / d1 a b d / c1 b 0 1m / .model d d 0 1 1")
	s := made(t, f, timed(api.Euler), by(3))
	at, segs := []int64{0, 0, 0, 0}, []int{0}
	for step, x := range []struct {
		says, b int64
		counts  string
	}{{4000000000, 1500000000, "2 8 2"}, {4000000000, 2250000000, "2 8 3"}, {4000000000, 2625000000, "2 8 4"}, {0, 2625000000, "3 12 6"}, {3000000000, 2625000000, "3 12 7"}, {4000000000, 2812500000, "4 16 9"}} {
		a := plan.Ask{Prev: at, Src: []int64{x.says, 0, 0}}
		found, err := s.Step(segs, a)
		if err != api.OK {
			t.Fatal(step, err)
		}
		if at, _, err = pwl.Report(f, found.Segs, found.Solution, a.Src); err != api.OK {
			t.Fatal(step, err)
		}
		segs = found.Segs
		c := s.Counts()
		if counts := numbers([]int64{c.Factors, c.Pivots, c.Solves}); at[1] != x.b || counts != x.counts {
			t.Errorf("step %d: %v, %s, not %v", step, at, counts, x)
		}
	}
}

// A circuit with as many devices, and as many unknowns, as may be: what is reported of it is that of its parts.
func TestAsMuchAsMayBe(t *testing.T) {
	var lines []string
	for k := range 16 {
		lines = append(lines, fmt.Sprintf("v%d a%d 0 %d / r%d a%d b%d 1k / d%d b%d 0 d / s%d 0 b%d b%d 0 s", k, k, k, k, k, k, k, k, k, k, k))
	}
	text := strings.Join(lines[:15], " / ") + " / .model d d 1u 0.7 100m / .model s s 1p 99 1"
	f := laid(text)
	if len(f.Devs) != 60 || unknowns(f) != 45 || len(f.Nodes) != 31 {
		t.Fatal(len(f.Devs), unknowns(f), len(f.Nodes))
	}
	a := said(f)
	s := made(t, f, resting(), by(2))
	x, err := s.Step(make([]int, 30), a)
	if err != api.OK || x.Tries != 2 {
		t.Fatal(err, x.Tries)
	}
	counted(t, s, 2, 90, 2)
	v, i, err := pwl.Report(f, x.Segs, x.Solution, a.Src)
	if err != api.OK {
		t.Fatal(err)
	}
	for k := range 15 {
		own := laid(fmt.Sprintf("v1 a 0 %d / r1 a b 1k / d1 b 0 d / s1 0 b b 0 s / .model d d 1u 0.7 100m / .model s s 1p 99 1", k))
		one, err := made(t, own, resting(), by(2)).Step([]int{0, 0}, said(own))
		if err != api.OK || !slices.Equal(one.Segs, x.Segs[2*k:2*k+2]) {
			t.Fatal(k, one.Segs, x.Segs, err)
		}
		reports(t, own, one.Segs, one.Solution, said(own).Src, numbers([]int64{v[2*k], v[2*k+1], v[30+k]}), numbers(i[4*k:4*k+4]))
	}
	// 48 unknowns are as many as may be.
	big := laid("r1 a 0 1k / " + capacitors(47))
	if unknowns(big) != 48 {
		t.Fatal(unknowns(big))
	}
	steps(t, made(t, big, timed(api.Euler), by(1)), nil, said(big), strings.Repeat("0 ", 48)+"[] 1")
}

func capacitors(count int) string {
	var l []string
	for k := range count {
		l = append(l, "c"+strconv.Itoa(k)+" a 0 1u")
	}
	return strings.Join(l, " / ")
}

// W1: in whatever order the cards stand, the same is reported of each node and of each device.
func TestTheOrderOfTheCardsIsNothing(t *testing.T) {
	cards := []string{"v1 a 0 5", "r1 a b 1k", "d1 b c d", "s1 c 0 a b s", "r2 c 0 2k", "d2 0 b d", "i1 b 0 1m"}
	want := map[string]string{}
	d := dice(1661)
	for round := range 40 {
		f := laid(strings.Join(cards, " / ") + " / .model d d 1u 0.7 100m / .model s s 1 2 1m")
		a := said(f)
		x, err := made(t, f, resting(), by(20)).Step([]int{0, 0, 0}, a)
		if err != api.OK {
			t.Fatal(err)
		}
		v, i, err := pwl.Report(f, x.Segs, x.Solution, a.Src)
		if err != api.OK {
			t.Fatal(err)
		}
		for k, name := range slices.Concat(f.Nodes[1:], []string{"v1's branch"}) {
			same(t, want, round, name, v[k])
		}
		for k, dev := range f.Devs {
			same(t, want, round, "i of "+dev.Name, i[k])
		}
		for k := range cards {
			other := d.below(len(cards))
			cards[k], cards[other] = cards[other], cards[k]
		}
	}
}

// same fails unless x is what was told by that name in the first round.
func same(t *testing.T, want map[string]string, round int, name string, x int64) {
	t.Helper()
	if told := strconv.FormatInt(x, 10); round == 0 {
		want[name] = told
	} else if want[name] != told {
		t.Fatalf("round %d: %s: %s, not %s", round, name, told, want[name])
	}
}
