package sweep_test

import (
	"fmt"
	"strconv"
	"strings"
	"testing"

	"shunt/api"
	"shunt/card"
	"shunt/flat"
	"shunt/netlist"
	"shunt/sweep"
)

const edge = api.MaxGrid

func n(mant int64, exp int) api.Num { return api.Num{Mant: mant, Exp: exp} }

// by are right options of so many choices.
func by(iter int) api.Options { return api.Options{Limbs: api.MaxLimbs, Iter: iter, Workers: 1} }

// laid is the flat circuit of a netlist's lines, parted by strokes with blanks around them.
func laid(lines string) api.Flat {
	c, at, err := netlist.Parse(strings.ReplaceAll(lines, " / ", "\n"))
	if err != api.OK {
		panic(fmt.Sprint(lines, at, err))
	}
	f, err := flat.Flatten(c)
	if err != api.OK {
		panic(fmt.Sprint(lines, err))
	}
	return f
}

// ends are how many nodes a device of that kind has.
func ends(kind byte) int {
	if strings.IndexByte("egts", kind) >= 0 {
		return 4
	}
	return 2
}

// dev is the device of a line: its kind, its name, its nodes' numbers, and a value, a wave, a Ref and a value, or a model.
func dev(line string) api.Dev {
	w := strings.Fields(line)
	d := api.Dev{Kind: w[0][0], Name: w[1]}
	words := []string{w[0]}
	w = w[2:]
	for range ends(d.Kind) {
		node, _ := strconv.Atoi(w[0])
		d.Nodes, words, w = append(d.Nodes, node), append(words, "0"), w[1:]
	}
	if strings.Contains("ds", words[0]) {
		m, err := card.ReadModel(append([]string{".model"}, w...))
		if err != api.OK {
			panic(line)
		}
		d.Model = m
		return d
	}
	if strings.Contains("fh", words[0]) {
		d.Ref, _ = strconv.Atoi(w[0])
		words, w = append(words, "v"), w[1:]
	}
	c, err := card.Read(append(words, w...))
	if err != api.OK {
		panic(line)
	}
	d.Value, d.Wave = c.Value, c.Wave
	return d
}

// hand is a flat circuit made by hand, of 1u and Euler: the names of its nodes, and lines of devices.
func hand(nodes string, lines ...string) api.Flat {
	f := api.Flat{Nodes: strings.Fields(nodes), Step: n(1, -6), Method: api.Euler}
	for _, s := range lines {
		f.Devs = append(f.Devs, dev(s))
	}
	return f
}

func unknowns(f api.Flat) int {
	count, _ := flat.Unknowns(f)
	return count
}

// numbers are a list as a text.
func numbers[T any](l []T) string { return strings.Trim(fmt.Sprint(l), "[]") }

// stateText is X, I and Segs as a text.
func stateText(s api.State) string {
	return fmt.Sprintf("%s | %s | [%s]", numbers(s.X), numbers(s.I), numbers(s.Segs))
}

func countsText(c api.Counts) string { return fmt.Sprint(c.Factors, c.Pivots, c.Solves) }

// text is what Points answers: the states and the Counts, or the error, its point and the Counts, with whatever else stands
// beside it. A state's Step is told where it isn't its point's number.
func text(l []api.State, c api.Counts, at int, err api.Errno) string {
	var words []string
	if err != api.OK || at != 0 {
		words = append(words, fmt.Sprintf("error %d at %d", err, at))
	}
	for number, s := range l {
		step := ""
		if s.Step != number {
			step = "step " + strconv.Itoa(s.Step) + " "
		}
		words = append(words, step+stateText(s))
	}
	return strings.Join(append(words, countsText(c)), " ; ")
}

func answer(f api.Flat, o api.Options, q sweep.Range) string { return text(sweep.Points(f, o, q)) }

// asError is what Points answers with that error at that point and those Counts, as a text.
func asError(err api.Errno, at, factors, pivots, solves int) string {
	return fmt.Sprintf("error %d at %d ; %d %d %d", err, at, factors, pivots, solves)
}

// short is what is told in a failure, cut where it is too long.
func short(x any) string {
	text := fmt.Sprint(x)
	if len(text) > 900 {
		return text[:900] + ".."
	}
	return text
}

// points fails unless Points answers just that text.
func points(t *testing.T, f api.Flat, o api.Options, q sweep.Range, want string) {
	t.Helper()
	if got := answer(f, o, q); got != want {
		t.Errorf("%s: Points %v %v: %s, not %s", short(f), o, q, short(got), short(want))
	}
}

// refuses fails unless Points answers just that error, and neither a point nor that something was counted.
func refuses(t *testing.T, f api.Flat, o api.Options, q sweep.Range, want api.Errno) {
	t.Helper()
	points(t, f, o, q, asError(want, 0, 0, 0, 0))
}
