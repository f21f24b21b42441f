package pwl_test

import (
	"slices"
	"strings"
	"testing"

	"shunt/api"
	"shunt/plan"
	"shunt/pwl"
	"shunt/rat"
)

// enough fails unless each error was met so often.
func enough(t *testing.T, met, want map[api.Errno]int) {
	t.Helper()
	for err, count := range want {
		if met[err] < count {
			t.Errorf("error %d: %d times, not %d", err, met[err], count)
		}
	}
}

// P16.2, P16.3: steps by a solver that has done others, and by a new one, are those that are found in fractions; each holds.
func TestStepsAreThoseThatHold(t *testing.T) {
	d := dice(1621)
	met, tries := map[api.Errno]int{}, map[int]int{}
	for k := range 800 {
		f := d.flat([]string{bentKinds, bentKinds, bentKinds, plainKinds}[k%4])
		set, iter := d.setting(), []int{1, 2, 3, 8, 20}[d.below(5)]
		s := made(t, f, set, by(iter))
		for range 4 {
			segs, a := d.segments(f), d.ask(f)
			x, err := s.Step(segs, a)
			met[err]++
			tries[x.Tries]++
			want := meant(f, set, iter, segs, a)
			if got := text(x, err); got != want {
				t.Fatalf("%v %v, %d choices: Step(%v, %v): %s, not %s", f, set, iter, segs, a, got, want)
			}
			steps(t, made(t, f, set, by(iter)), segs, a, want)
			if err == api.OK {
				holds(t, f, set, x, a)
			}
		}
	}
	enough(t, met, map[api.Errno]int{api.OK: 1000, api.ErrSingular: 100, api.ErrNoSegment: 100})
	for n, count := range map[int]int{1: 500, 2: 100, 3: 20} {
		if tries[n] < count {
			t.Error(n, "choices:", tries[n], "times")
		}
	}
}

// holds fails unless the solution solves its choice's equations, and each bent device's voltage lies in its segment.
func holds(t *testing.T, f api.Flat, set api.Setting, x pwl.Found, a plan.Ask) {
	t.Helper()
	var exact []api.Rat
	for _, b := range x.Solution.X {
		exact = append(exact, must(rat.Make(b, x.Solution.D)))
	}
	for i, row := range equations(f, set, x.Segs, a) {
		sum := ratio(0, 1)
		for j, r := range exact {
			sum = plus(sum, times(row[j], r))
		}
		if compared(sum, row[len(exact)]) != 0 {
			t.Fatalf("%v %v %v: row %d of %v", f, set, a, i, x.Segs)
		}
	}
	if !slices.Equal(behind(f, x.Segs, exact), x.Segs) {
		t.Fatalf("%v %v %v: %v doesn't hold", f, set, a, x.Segs)
	}
}

// P16.1, P16.3: calls in every order, right ones and others, with few limbs and many, answer what a new solver does; Counts is
// that of all plans, of which one is kept as long as its choice is looked at.
func TestInEveryOrder(t *testing.T) {
	d := dice(1631)
	met := map[api.Errno]int{}
	for range 350 {
		f := d.flat(bentKinds)
		l := &ledger{f: f, s: d.setting(), o: d.options()}
		s := made(t, f, l.s, l.o)
		choices := [][]int{d.segments(f), d.segments(f)}
		for range 8 {
			segs, a := d.call(f)
			if d.one(2) {
				segs = choices[d.below(2)]
			}
			x, err := l.step(segs, a)
			met[err]++
			steps(t, s, segs, a, text(x, err))
			steps(t, made(t, f, l.s, l.o), segs, a, text(x, err))
			counted(t, s, l.counts.Factors, l.counts.Pivots, l.counts.Solves)
			if t.Failed() {
				t.Fatalf("%v %v %v", f, l.s, l.o)
			}
		}
	}
	enough(t, met, map[api.Errno]int{
		api.OK: 400, api.ErrSingular: 50, api.ErrNoSegment: 100, api.ErrWide: 80, api.ErrSeg: 30, api.ErrSize: 50, api.ErrRange: 30,
	})
}

// P16.2, P16.3: without bent devices one choice is solved, Factors is 1 at most, and ErrNoSegment isn't answered.
func TestPlainCircuits(t *testing.T) {
	d := dice(1632)
	met := map[api.Errno]int{}
	for range 600 {
		f := d.flat(plainKinds)
		s := made(t, f, d.setting(), api.Options{Limbs: 1 + d.below(32), Iter: 1 + d.below(64), Workers: 1})
		for range 5 {
			segs, a := d.call(f)
			x, err := s.Step(segs, a)
			met[err]++
			if err == api.OK && (x.Tries != 1 || len(x.Segs) != 0) || err == api.ErrNoSegment {
				t.Fatal(f, x, err)
			}
			if s.Counts().Factors > 1 {
				t.Fatal(f, s.Counts())
			}
		}
	}
	enough(t, met, map[api.Errno]int{api.OK: 1000, api.ErrSingular: 100, api.ErrWide: 10})
}

// P16.4: what is reported of a step is what is nearest to the exact unknowns and currents.
func TestReportsOfSteps(t *testing.T) {
	d := dice(1641)
	met := map[api.Errno]int{}
	for k := range 1500 {
		f := d.flat([]string{bentKinds, plainKinds}[k%2])
		a := d.ask(f)
		x, err := made(t, f, d.setting(), by(8)).Step(d.segments(f), a)
		if err != api.OK {
			continue
		}
		v, i, err := pwl.Report(f, x.Segs, x.Solution, a.Src)
		met[err]++
		if got, want := reportText(v, i, err), meantReport(f, x.Segs, x.Solution, a.Src); got != want {
			t.Fatalf("%v: Report %v %v %v: %s, not %s", f, x.Segs, x.Solution, a.Src, got, want)
		}
	}
	enough(t, met, map[api.Errno]int{api.OK: 700, api.ErrRange: 10})
}

// Report of solutions made by hand, which solve nothing: short ones and long ones, many of them at halves.
func TestReportsOfAnySolution(t *testing.T) {
	d := dice(1642)
	met := map[string]int{}
	for range 2000 {
		f := d.flat("rcldsdsviegfht")
		segs, src := d.segments(f), d.grid(len(f.Devs))
		x := d.solution(unknowns(f), []int{1, 1, 2, 3, 30}[d.below(5)])
		got := reportText(pwl.Report(f, segs, x, src))
		if want := meantReport(f, segs, x, src); got != want {
			t.Fatalf("%v: Report %v %s %v: %s, not %s", f, segs, short(x), src, got, want)
		}
		met[strings.Fields(got)[0]]++
	}
	if met["error"] < 100 || met["error"] > 1200 {
		t.Error(met["error"])
	}
}
