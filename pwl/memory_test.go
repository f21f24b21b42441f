package pwl_test

import (
	"fmt"
	"reflect"
	"runtime"
	"slices"
	"testing"
	"unsafe"

	"shunt/api"
	"shunt/limb"
	"shunt/plan"
	"shunt/pwl"
)

// A span is a piece of memory.
type span struct {
	from, to uintptr
	what     string
}

// room is where a list lies, its spare room too.
func room[T any](l []T, what string) span {
	l = l[:cap(l)]
	from := uintptr(unsafe.Pointer(unsafe.SliceData(l)))
	return span{from, from + uintptr(len(l))*unsafe.Sizeof(*new(T)), what}
}

// apart fails if one of the pieces meets another.
func apart(t *testing.T, l ...span) {
	t.Helper()
	slices.SortFunc(l, func(a, b span) int { return int(int64(a.from) - int64(b.from)) })
	last := span{}
	for _, x := range l {
		if x.from == x.to {
			continue
		}
		if x.from < last.to {
			t.Fatalf("%q and %q share memory", last.what, x.what)
		}
		last = x
	}
}

// A job is all that a solver and a report are handed in.
type job struct {
	circuit  api.Flat
	setting  api.Setting
	segs     []int
	ask      plan.Ask
	solution api.Solution
}

func flatSpans(f api.Flat) []span {
	l := []span{room(f.Nodes, "nodes"), room(f.Devs, "devices")}
	for i, d := range f.Devs {
		what := fmt.Sprint(" of device ", i)
		l = append(l, room(d.Nodes, "nodes"+what), room(d.Wave.Vals, "Vals"+what), room(d.Wave.Steps, "Steps"+what), room(d.Model.G, "G"+what), room(d.Model.V, "V"+what))
	}
	return l
}

func solutionSpans(x api.Solution, what string) []span {
	l := []span{room(x.X, what+" X"), room(x.D.Limbs, what+" D")}
	for k, a := range x.X {
		l = append(l, room(a.Limbs, fmt.Sprint(what, " limbs of X ", k)))
	}
	return l
}

func (j job) spans() []span {
	return slices.Concat(flatSpans(j.circuit), solutionSpans(j.solution, "solution"), []span{room(j.segs, "segs"), room(j.ask.Prev, "Prev"), room(j.ask.Src, "Src")})
}

func jobs() []job {
	d := dice(1651)
	var l []job
	for k := range 120 {
		f := d.flat([]string{bentKinds, plainKinds}[k%2])
		switch k {
		case 0:
			f = laid("")
		case 2:
			f = laid("v1 a 0 5 / r1 a b 1k / s1 b 0 b 0 s / .model s s 1n 0 1")
		}
		l = append(l, job{f, d.setting(), d.segments(f), d.ask(f), d.solution(unknowns(f), 4)})
	}
	return l
}

// spare is l with spare room behind it, and something in it.
func spare[T any](l []T, more ...T) []T { return append(slices.Clone(l), more...)[:len(l)] }

func spareInt(a api.Int) api.Int { return api.Int{Neg: a.Neg, Limbs: spare(a.Limbs, 5, 0)} }

// roomy is a job like j whose lists have memory of their own, and spare room, with things in it that aren't right.
func (j job) roomy() job {
	j.circuit.Nodes = spare(j.circuit.Nodes, "0", "")
	j.circuit.Devs = spare(j.circuit.Devs, api.Dev{}, api.Dev{Kind: 'd'})
	for i := range j.circuit.Devs {
		d := &j.circuit.Devs[i]
		d.Nodes = spare(d.Nodes, -1)
		d.Wave.Vals, d.Wave.Steps = spare(d.Wave.Vals, n(10, 0)), spare(d.Wave.Steps, -1)
		d.Model.G, d.Model.V = spare(d.Model.G, n(10, 0)), spare(d.Model.V, n(10, 0))
	}
	j.segs = spare(j.segs, 99)
	j.ask = plan.Ask{Prev: spare(j.ask.Prev, edge+1), Src: spare(j.ask.Src, -edge-1)}
	j.solution.X = spare(j.solution.X, api.Int{Neg: true})
	for k, a := range j.solution.X {
		j.solution.X[k] = spareInt(a)
	}
	j.solution.D = spareInt(j.solution.D)
	return j
}

// all is a copy of l with what its spare room holds.
func all[T any](l []T) []T { return slices.Clone(l[:cap(l)]) }

// everything is a copy of all that a job holds, its spare rooms too.
func (j job) everything() job {
	j.circuit.Nodes, j.circuit.Devs = all(j.circuit.Nodes), all(j.circuit.Devs)
	for i := range j.circuit.Devs {
		d := &j.circuit.Devs[i]
		d.Nodes, d.Wave.Vals, d.Wave.Steps, d.Model.G, d.Model.V = all(d.Nodes), all(d.Wave.Vals), all(d.Wave.Steps), all(d.Model.G), all(d.Model.V)
	}
	j.segs, j.ask = all(j.segs), plan.Ask{Prev: all(j.ask.Prev), Src: all(j.ask.Src)}
	j.solution.X, j.solution.D.Limbs = all(j.solution.X), all(j.solution.D.Limbs)
	for k := range j.solution.X {
		j.solution.X[k].Limbs = all(j.solution.X[k].Limbs)
	}
	return j
}

func scribbleOn[T any](l []T, with T) {
	l = l[:cap(l)]
	for i := range l {
		l[i] = with
	}
}

// scribbleCircuit writes over all that the circuit's lists hold, their spare rooms too.
func (j job) scribbleCircuit() {
	for _, d := range j.circuit.Devs {
		scribbleOn(d.Nodes, 0)
		scribbleOn(d.Wave.Vals, n(10, 0))
		scribbleOn(d.Wave.Steps, -1)
		scribbleOn(d.Model.G, n(77, 0))
		scribbleOn(d.Model.V, n(77, 0))
	}
	scribbleOn(j.circuit.Devs, api.Dev{Kind: 'd', Name: "d"})
	scribbleOn(j.circuit.Nodes, "0")
}

// scribbleRest writes over all that the other lists hold.
func (j job) scribbleRest() {
	scribbleOn(j.segs, 77)
	scribbleOn(j.ask.Prev, 77)
	scribbleOn(j.ask.Src, 77)
	scribbleSolution(j.solution)
}

func scribbleSolution(x api.Solution) {
	for _, a := range x.X {
		scribbleOn(a.Limbs, 77)
	}
	scribbleOn(x.X, limb.Of(77))
	scribbleOn(x.D.Limbs, 77)
}

// An outcome is all that a job is answered.
type outcome struct {
	first, second pwl.Found
	stepErr       api.Errno
	x, i          []int64
	err           api.Errno
}

func (o outcome) text() string {
	return text(o.first, o.stepErr) + " | " + text(o.second, o.stepErr) + " | " + reportText(o.x, o.i, o.err)
}

func (o outcome) spans() []span {
	l := []span{room(o.first.Segs, "segments found"), room(o.second.Segs, "segments found again"), room(o.x, "reported X"), room(o.i, "reported I")}
	return slices.Concat(l, solutionSpans(o.first.Solution, "found"), solutionSpans(o.second.Solution, "found again"))
}

// scribble writes over all that was answered.
func (o outcome) scribble() {
	for _, x := range []pwl.Found{o.first, o.second} {
		scribbleSolution(x.Solution)
		scribbleOn(x.Segs, 77)
	}
	scribbleOn(o.x, 77)
	scribbleOn(o.i, 77)
}

// steps does the job's steps by a solver: one, and once more.
func (j job) steps(s *pwl.Solver) outcome {
	var o outcome
	o.first, o.stepErr = s.Step(j.segs, j.ask)
	o.second, o.stepErr = s.Step(j.segs, j.ask)
	return o
}

func (j job) outcome(s *pwl.Solver) outcome {
	o := j.steps(s)
	o.x, o.i, o.err = pwl.Report(j.circuit, j.segs, j.solution, j.ask.Src)
	return o
}

// Lists of answers lie apart from one another and from what was handed in, with their spare rooms.
func TestNoTwoListsShareMemory(t *testing.T) {
	for _, own := range jobs() {
		j := own.roomy()
		s := made(t, j.circuit, j.setting, by(5))
		first, second := j.outcome(s), j.outcome(made(t, j.circuit, j.setting, by(5)))
		apart(t, slices.Concat(j.spans(), first.spans(), second.spans())...)
		// Memory that nobody holds any more may be given anew.
		runtime.KeepAlive(j)
		runtime.KeepAlive(first)
		runtime.KeepAlive(second)
	}
}

// P16.5: what is handed in is left as it was, its spare rooms too, which have no say. It may be written over behind the call,
// the circuit ahead of the first step too; so may an answer.
func TestWhatIsHandedInIsLeftAsItWas(t *testing.T) {
	met := map[api.Errno]int{}
	for _, own := range jobs() {
		want := own.outcome(made(t, own.circuit, own.setting, by(5))).text()
		j := own.roomy()
		was := j.everything()
		s, early := made(t, j.circuit, j.setting, by(5)), made(t, j.circuit, j.setting, by(5))
		got := j.outcome(s)
		if now := j.everything(); !reflect.DeepEqual(now, was) {
			t.Fatalf("%s is %s behind the calls", short(was), short(now))
		}
		j.scribbleCircuit()
		later := j.steps(early)
		j.scribbleRest()
		if got.text() != want || text(later.first, later.stepErr) != text(got.first, got.stepErr) {
			t.Fatalf("%s: %s, not %s", short(own), short(got.text()), short(want))
		}
		met[got.stepErr]++
		got.scribble()
		for _, again := range []*pwl.Solver{s, early} {
			if now := own.outcome(again).text(); now != want || text(later.first, later.stepErr) != text(later.second, later.stepErr) {
				t.Fatalf("%s: %s, not %s: an answer changes with what becomes of another", short(own), short(now), short(want))
			}
		}
	}
	enough(t, met, map[api.Errno]int{api.OK: 50, api.ErrNoSegment: 1, api.ErrSingular: 5})
}

// A choice that was found may be written over: the kept plan is still that of the choice as it was found.
func TestAChoiceWrittenOver(t *testing.T) {
	f := laid(theDiode)
	s := made(t, f, resting(), by(8))
	for range 3 {
		x, err := s.Step([]int{1}, said(f))
		if err != api.OK {
			t.Fatal(err)
		}
		x.Segs[0] = 0
	}
	counted(t, s, 1, 3, 3)
	steps(t, s, []int{0}, with(said(f), 0, 100000000), "100000000 100000000000/1001 -100000/1001 [0] 1")
	counted(t, s, 2, 6, 4)
}

// Devices, and numbers of a solution, that share memory as they are handed in make no difference.
func TestListsThatShareMemory(t *testing.T) {
	f := laid(theDiode + " / d2 b 0 d")
	f.Devs[3].Model.G, f.Devs[3].Nodes = f.Devs[2].Model.G, f.Devs[2].Nodes
	s := made(t, f, resting(), by(8))
	three := limb.Of(3)
	reports(t, f, []int{1, 0}, api.Solution{X: []api.Int{three, three, three}, D: three}, make([]int64, 4), "1 1 1", "1 0 -69999300 0")
	want := text(made(t, laid(theDiode+" / d2 b 0 d"), resting(), by(8)).Step([]int{0, 0}, said(f)))
	both := slices.Repeat([]int64{0}, 7)
	src := both[3:]
	src[0] = 5000000000
	steps(t, s, []int{0, 0}, plan.Ask{Prev: both[:3], Src: src}, want)
	if three.Limbs[0] != 3 {
		t.Error(three)
	}
}
