package plan_test

import (
	"fmt"
	"strings"
	"testing"

	"shunt/api"
	"shunt/limb"
	"shunt/plan"
	"shunt/system"
)

const every = "v1 a 0 5 / r1 a b 1k / c1 b 0 1u / l1 b c 1m / r2 c 0 33 / i1 c 0 1 / e1 d 0 a b 2 / g1 c 0 a d 3 / f1 b 0 v1 2 / h1 e 0 v1 3 / r3 e d 7 / d1 a c dio / s1 b d a 0 sw / .model dio d 1u 0.7 100m / .model sw s 1 0 2"

func circuits() []string {
	return []string{"", "v1 a 0 5 / r1 a b 1k / r2 b 0 2k", "v1 a 0 5 / r1 a b 1k / c1 b 0 1u", "i1 a 0 1", "v1 a 0 1 / v2 a 0 1", "r1 a b 1 / r2 a b -1 / r3 b 0 1", every}
}

// The voltages and currents of circuits at rest that are known, as fractions of thousand-millionths.
func TestKnownCircuits(t *testing.T) {
	for _, x := range []struct{ lines, want string }{
		{"v1 a 0 5 / r1 a b 1k / r2 b 0 2k", "5000000000/1 10000000000/3 -5000000/3"},
		{"v1 a 0 -4 / r1 a b 1k / r2 b 0 1k", "-4000000000/1 -2000000000/1 2000000/1"},
		{"v1 a 0 5 / r1 a b 1k / d1 b 0 dio / .model dio d 1u 0.7 100m", "5000000000/1 5000000000000/1001 -5000000/1001"},
		{"i1 0 a 2 / r1 a 0 3", "6000000000/1"},
	} {
		f, s := laid(x.lines), built(x.lines, resting())
		said, err := system.Sources(f, 0)
		if err != api.OK {
			t.Fatal(err)
		}
		got, err := made(t, s, 32).Solve(plan.Ask{Prev: make([]int64, len(s.Rows)), Src: said})
		want := strings.Fields(x.want)
		if err != api.OK || len(got.X) != len(want) {
			t.Fatalf("%s: %v, error %d", x.lines, got, err)
		}
		for j, text := range want {
			above, below, _ := strings.Cut(text, "/")
			left, _ := limb.Mul(got.X[j], whole(below))
			right, _ := limb.Mul(got.D, whole(above))
			if told(left) != told(right) {
				t.Errorf("%s: unknown %d: %s / %s, not %s", x.lines, j, told(got.X[j]), told(got.D), text)
			}
		}
	}
}

// A capacitor that is loaded by 5 V goes half of the way at each step of its own time: one plan for all of them.
func TestStepsOfOnePlan(t *testing.T) {
	p := made(t, built("v1 a 0 5 / r1 a b 1k / c1 b 0 1u", timed(api.Euler)), 32)
	at := []int64{0, 0, 0, 0}
	for step, want := range []int64{2500000000, 3750000000, 4375000000, 4687500000, 4843750000} {
		x, err := p.Solve(plan.Ask{Prev: at, Src: []int64{5000000000, 0, 0}})
		if err != api.OK {
			t.Fatal(err)
		}
		for j := range at {
			quotient, rest, _ := limb.QuoRem(x.X[j], x.D)
			if at[j], _ = limb.Int64(quotient); len(rest.Limbs) > 0 {
				t.Fatal(step, j, told(rest))
			}
		}
		if at[1] != want {
			t.Errorf("step %d: %v, not %d", step, at, want)
		}
		counted(t, p, 1, 4, int64(step+1))
	}
}

// holds fails unless each row's sum of A times X is the right side times D, and D is above 0.
func holds(t *testing.T, s api.System, a plan.Ask, x api.Solution) {
	t.Helper()
	b, err := system.Rhs(s, a.Prev, a.Src)
	if err != api.OK || len(x.X) != len(b) || x.D.Neg || len(x.D.Limbs) == 0 {
		t.Fatalf("error %d, %d X, D %s", err, len(x.X), told(x.D))
	}
	for i, row := range s.Rows {
		var sum api.Int
		for _, c := range row.A {
			product, _ := limb.Mul(c.Val, x.X[c.Col])
			sum, _ = limb.Add(sum, product)
		}
		if want, _ := limb.Mul(b[i], x.D); told(sum) != told(want) {
			t.Errorf("row %d: %s, not %s", i, short(told(sum)), short(told(want)))
		}
	}
}

// Systems that are built, at rest and in time: what is told solves them, ask by ask, and is factored once.
func TestSystemsThatAreBuilt(t *testing.T) {
	for _, set := range []api.Setting{resting(), timed(api.Euler), timed(api.Trap)} {
		for _, s := range []api.System{divider(), built(every, set), ladder(5, set), ladder(15, set)} {
			d, p := dice(1541), made(t, s, 32)
			for k := range int64(4) {
				a := plan.Ask{Prev: d.grid(len(s.Rows)), Src: d.grid(api.MaxDevs)}
				x, err := p.Solve(a)
				if err != api.OK {
					t.Fatalf("%s: error %d", short(s), err)
				}
				holds(t, s, a, x)
				counted(t, p, 1, int64(len(s.Rows)), k+1)
			}
		}
	}
}

// Circuits whose equations have no one solution, by how many pivots are taken ahead of it.
func TestCircuitsWithoutASolution(t *testing.T) {
	for _, x := range []struct {
		lines  string
		pivots int64
	}{{"i1 a 0 1", 0}, {"v1 a 0 1 / v2 a 0 1", 2}, {"v1 a 0 5 / c1 a b 1u", 3}, {"r1 a b 1", 1}, {"r1 a b 1 / r2 a b -1 / r3 b 0 1", 1}} {
		s := built(x.lines, resting())
		p := made(t, s, 32)
		for range 3 {
			refusesAsk(t, p, noughts(len(s.Rows)), api.ErrSingular)
			counted(t, p, 1, x.pivots, 0)
		}
		if got := fmt.Sprint(together(t, p, []plan.Ask{noughts(len(s.Rows)), {}, noughts(len(s.Rows))}, 3)); got != "[error 140 error 5 error 140]" {
			t.Error(got)
		}
		counted(t, p, 1, x.pivots, 0)
	}
}
