package pwl_test

import (
	"fmt"
	"slices"
	"strconv"
	"strings"
	"testing"

	"shunt/api"
	"shunt/card"
	"shunt/flat"
	"shunt/limb"
	"shunt/netlist"
	"shunt/plan"
	"shunt/pwl"
	"shunt/rat"
	"shunt/system"
)

const edge = api.MaxGrid

// theDiode is the chapter's circuit.
const theDiode = "v1 a 0 5 / r1 a b 1k / d1 b 0 d / .model d d 1u 0.7 100m"

func n(mant int64, exp int) api.Num { return api.Num{Mant: mant, Exp: exp} }

func resting() api.Setting { return api.Setting{Mode: api.Op} }

func timed(method int) api.Setting {
	return api.Setting{Mode: api.Tran, Method: method, Step: n(1, -3)}
}

// by are right options of so many choices.
func by(iter int) api.Options { return api.Options{Limbs: api.MaxLimbs, Iter: iter, Workers: 1} }

// laid is the flat circuit of a netlist's lines, parted by strokes with blanks around them.
func laid(lines string) api.Flat {
	c, at, err := netlist.Parse(strings.ReplaceAll(lines, " / ", "\n"))
	if err != api.OK {
		panic(fmt.Sprint(lines, at, err))
	}
	f, err := flat.Flatten(c)
	if err != api.OK {
		panic(fmt.Sprint(lines, err))
	}
	return f
}

// ends are how many nodes a device of that kind has.
func ends(kind byte) int {
	if strings.IndexByte("egts", kind) >= 0 {
		return 4
	}
	return 2
}

// dev is the device of a line: its kind, its name, its nodes' numbers, and a value, a wave, a Ref and a value, or a model.
func dev(line string) api.Dev {
	w := strings.Fields(line)
	d := api.Dev{Kind: w[0][0], Name: w[1]}
	words := []string{w[0]}
	w = w[2:]
	for range ends(d.Kind) {
		node, _ := strconv.Atoi(w[0])
		d.Nodes, words, w = append(d.Nodes, node), append(words, "0"), w[1:]
	}
	if strings.Contains("ds", words[0]) {
		m, err := card.ReadModel(append([]string{".model"}, w...))
		if err != api.OK {
			panic(line)
		}
		d.Model = m
		return d
	}
	if strings.Contains("fh", words[0]) {
		d.Ref, _ = strconv.Atoi(w[0])
		words, w = append(words, "v"), w[1:]
	}
	c, err := card.Read(append(words, w...))
	if err != api.OK {
		panic(line)
	}
	d.Value, d.Wave = c.Value, c.Wave
	return d
}

// hand is a flat circuit made by hand, of 1u and Euler: the names of its nodes, and lines of devices.
func hand(nodes string, lines ...string) api.Flat {
	f := api.Flat{Nodes: strings.Fields(nodes), Step: n(1, -6), Method: api.Euler}
	for _, s := range lines {
		f.Devs = append(f.Devs, dev(s))
	}
	return f
}

// said is the ask of noughts for the step before, and of what f's sources say at the step 0.
func said(f api.Flat) plan.Ask {
	src, err := system.Sources(f, 0)
	if err != api.OK {
		panic(err)
	}
	return plan.Ask{Prev: make([]int64, unknowns(f)), Src: src}
}

func unknowns(f api.Flat) int {
	count, _ := flat.Unknowns(f)
	return count
}

// with is an ask like a, in which one source says something else.
func with(a plan.Ask, place int, says int64) plan.Ask {
	a.Src = slices.Clone(a.Src)
	a.Src[place] = says
	return a
}

// whole is the whole number of a text, or of 2^ and a power.
func whole(text string) api.Int {
	if power, is := strings.CutPrefix(text, "2^"); is {
		bits, _ := strconv.Atoi(power)
		return api.Int{Limbs: append(make([]uint32, bits/32), 1<<(bits%32))}
	}
	a, err := limb.Parse(text)
	if err != api.OK {
		panic(text)
	}
	return a
}

// solution is that of a text, such as 5 15 / 5: X, and D.
func solution(text string) api.Solution {
	above, below, _ := strings.Cut(text, "/")
	x := api.Solution{D: whole(strings.TrimSpace(below))}
	for _, word := range strings.Fields(above) {
		x.X = append(x.X, whole(word))
	}
	return x
}

func told(a api.Int) string {
	text, err := limb.Text(a)
	if err != api.OK {
		return fmt.Sprint("(not right: ", len(a.Limbs), " limbs)")
	}
	return text
}

// fraction is a over b as a text, in lowest terms.
func fraction(a, b api.Int) string {
	r, err := rat.Make(a, b)
	switch {
	case err != api.OK:
		return told(a) + "/" + told(b) + "?"
	case told(r.Den) == "1":
		return told(r.Num)
	}
	return told(r.Num) + "/" + told(r.Den)
}

// text is what Step answers: the unknowns as fractions, the choice, and how many were solved; or the error, with whatever
// stands beside it.
func text(x pwl.Found, err api.Errno) string {
	var words []string
	if err != api.OK {
		words = append(words, "error", strconv.Itoa(int(err)))
	}
	for _, a := range x.Solution.X {
		words = append(words, fraction(a, x.Solution.D))
	}
	if err == api.OK || len(x.Segs) > 0 || x.Tries != 0 || len(x.Solution.D.Limbs) > 0 {
		words = append(words, fmt.Sprint(x.Segs), strconv.Itoa(x.Tries))
	}
	return strings.Join(words, " ")
}

// short is what is told in a failure, cut where it is too long.
func short(x any) string {
	text := fmt.Sprint(x)
	if len(text) > 900 {
		return text[:900] + ".."
	}
	return text
}

// made fails unless New answers a solver that has done nothing.
func made(t *testing.T, f api.Flat, s api.Setting, o api.Options) *pwl.Solver {
	t.Helper()
	p, err := pwl.New(f, s, o)
	if err != api.OK || p == nil {
		t.Fatalf("%s: New %v %v: %t, error %d", short(f), s, o, p != nil, err)
	}
	counted(t, p, 0, 0, 0)
	return p
}

// refuses fails unless New answers just that error.
func refuses(t *testing.T, f api.Flat, s api.Setting, o api.Options, want api.Errno) {
	t.Helper()
	if p, err := pwl.New(f, s, o); p != nil || err != want {
		t.Errorf("%s: New %v %v: %t, error %d, not error %d", short(f), s, o, p != nil, err, want)
	}
}

// steps fails unless Step answers just that text.
func steps(t *testing.T, s *pwl.Solver, segs []int, a plan.Ask, want string) {
	t.Helper()
	if got := text(s.Step(segs, a)); got != want {
		t.Errorf("Step(%s, %s): %s, not %s", short(segs), short(a), short(got), short(want))
	}
}

// refusesStep fails unless Step answers just that error.
func refusesStep(t *testing.T, s *pwl.Solver, segs []int, a plan.Ask, want api.Errno) {
	t.Helper()
	steps(t, s, segs, a, "error "+strconv.Itoa(int(want)))
}

// counted fails unless Counts tells just these.
func counted(t *testing.T, s *pwl.Solver, factors, pivots, solves int64) {
	t.Helper()
	if got := s.Counts(); got != (api.Counts{Factors: factors, Pivots: pivots, Solves: solves}) {
		t.Errorf("Counts: %v, not %d %d %d", got, factors, pivots, solves)
	}
}

// numbers are a list as a text.
func numbers(l []int64) string { return strings.Trim(fmt.Sprint(l), "[]") }

// reports fails unless Report answers just these X and I.
func reports(t *testing.T, f api.Flat, segs []int, x api.Solution, src []int64, wantX, wantI string) {
	t.Helper()
	v, i, err := pwl.Report(f, segs, x, src)
	if err != api.OK || numbers(v) != wantX || numbers(i) != wantI {
		t.Errorf("%s: Report %v %s %s: %s, %s, error %d, not %s, %s", short(f), segs, short(x), short(src), short(v), short(i), err, short(wantX), short(wantI))
	}
}

// refusesReport fails unless Report answers just that error.
func refusesReport(t *testing.T, f api.Flat, segs []int, x api.Solution, src []int64, want api.Errno) {
	t.Helper()
	if v, i, err := pwl.Report(f, segs, x, src); len(v) != 0 || len(i) != 0 || err != want {
		t.Errorf("%s: Report %v %s %s: %s, %s, error %d, not error %d", short(f), segs, short(x), short(src), short(v), short(i), err, want)
	}
}

// reported are X and I of what a solver finds, as texts.
func reported(t *testing.T, lines string, segs ...int) (string, string) {
	t.Helper()
	f := laid(lines)
	a := said(f)
	x, err := made(t, f, resting(), by(64)).Step(segs, a)
	if err != api.OK {
		t.Fatalf("%s: error %d", lines, err)
	}
	v, i, err := pwl.Report(f, x.Segs, x.Solution, a.Src)
	if err != api.OK {
		t.Fatalf("%s: error %d", lines, err)
	}
	return numbers(v), numbers(i)
}
