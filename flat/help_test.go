package flat_test

import (
	"fmt"
	"slices"
	"strconv"
	"strings"
	"testing"

	"shunt/api"
	"shunt/card"
	"shunt/flat"
	"shunt/netlist"
)

// div is the chapter's subcircuit.
const div = ".subckt div in out / r1 in out 1k / r2 out 0 1k / r3 out m 1k / .ends"

// behind are texts of lines, one behind the other.
func behind(l ...string) string {
	return strings.Join(slices.DeleteFunc(l, func(s string) bool { return s == "" }), " / ")
}

// count are so many lines of the form, in which # stands for the line's number, and ## for the one behind.
func count(form string, from, to int) string {
	var l []string
	for i := from; i <= to; i++ {
		s := strings.ReplaceAll(form, "##", strconv.Itoa(i+1))
		l = append(l, strings.ReplaceAll(s, "#", strconv.Itoa(i)))
	}
	return strings.Join(l, " / ")
}

func n(mant int64, exp int) api.Num { return api.Num{Mant: mant, Exp: exp} }

// circuit is what the lines say, parted by strokes with blanks around them.
func circuit(lines string) api.Circuit {
	c, at, err := netlist.Parse(strings.ReplaceAll(lines, " / ", "\n"))
	if err != api.OK {
		panic(fmt.Sprint(lines, at, err))
	}
	return c
}

// ends are how many nodes the kinds have.
func ends(kind byte) int {
	return map[byte]int{'r': 2, 'c': 2, 'l': 2, 'v': 2, 'i': 2, 'e': 4, 'g': 4, 'f': 2, 'h': 2, 't': 4, 'd': 2, 's': 4}[kind]
}

// dev is the device of a line: its kind, its name, its nodes' numbers, and a value, a wave, a Ref and a value, or a model.
func dev(line string) api.Dev {
	w := strings.Fields(line)
	d := api.Dev{Kind: w[0][0], Name: w[1]}
	words := []string{w[0]}
	w = w[2:]
	for range ends(d.Kind) {
		node, _ := strconv.Atoi(w[0])
		d.Nodes, words, w = append(d.Nodes, node), append(words, "0"), w[1:]
	}
	if strings.Contains("ds", words[0]) {
		m, err := card.ReadModel(append([]string{".model"}, w...))
		if err != api.OK {
			panic(line)
		}
		d.Model = m
		return d
	}
	if strings.Contains("fh", words[0]) {
		d.Ref, _ = strconv.Atoi(w[0])
		words, w = append(words, "v"), w[1:]
	}
	c, err := card.Read(append(words, w...))
	if err != api.OK {
		panic(line)
	}
	d.Value, d.Wave = c.Value, c.Wave
	return d
}

// hand is a flat circuit made by hand, of 1u and Euler: the names of its nodes, and lines of devices.
func hand(nodes string, lines ...string) api.Flat {
	f := api.Flat{Nodes: strings.Fields(nodes), Step: n(1, -6), Method: api.Euler}
	for _, s := range lines {
		f.Devs = append(f.Devs, dev(s))
	}
	return f
}

func sameWave(a, b api.Wave) bool {
	return a.Kind == b.Kind && slices.Equal(a.Vals, b.Vals) && slices.Equal(a.Steps, b.Steps)
}

func sameModel(a, b api.Model) bool {
	return a.Name == b.Name && a.Kind == b.Kind && slices.Equal(a.G, b.G) && slices.Equal(a.V, b.V)
}

// sameBut says whether two devices are one but for their names.
func sameBut(a, b api.Dev) bool {
	return a.Kind == b.Kind && slices.Equal(a.Nodes, b.Nodes) && a.Ref == b.Ref && a.Value == b.Value && sameWave(a.Wave, b.Wave) && sameModel(a.Model, b.Model)
}

func sameDev(a, b api.Dev) bool { return a.Name == b.Name && sameBut(a, b) }

func same(a, b api.Flat) bool {
	return a.Step == b.Step && a.Method == b.Method && slices.Equal(a.Nodes, b.Nodes) && slices.EqualFunc(a.Devs, b.Devs, sameDev)
}

// told is what Flatten answers.
type told struct {
	f   api.Flat
	err api.Errno
}

func tell(c api.Circuit) told {
	f, err := flat.Flatten(c)
	return told{f, err}
}

func (a told) is(b told) bool { return same(a.f, b.f) && a.err == b.err }

// short is what is told in a failure, cut where it is too long.
func short(x any) string {
	text := fmt.Sprint(x)
	if len(text) > 900 {
		return text[:900] + ".."
	}
	return text
}

// lays fails unless the lines are laid as that flat circuit.
func lays(t *testing.T, lines string, want api.Flat) {
	t.Helper()
	if got := tell(circuit(lines)); !got.is(told{want, api.OK}) {
		t.Errorf("%q: %s, not %s", short(lines), short(got), short(want))
	}
}

// refuses fails unless Flatten answers that error to the lines, and nothing else.
func refuses(t *testing.T, lines string, want api.Errno) {
	t.Helper()
	refusesCircuit(t, circuit(lines), want)
}

func refusesCircuit(t *testing.T, c api.Circuit, want api.Errno) {
	t.Helper()
	if got := tell(c); !got.is(told{api.Flat{}, want}) {
		t.Errorf("%s: %s, not error %d", short(c), short(got), want)
	}
}

// right fails unless the lines are laid, with so many nodes, devices and unknowns.
func right(t *testing.T, lines string, nodes, devs, unknowns int) api.Flat {
	t.Helper()
	got := tell(circuit(lines))
	if got.err != api.OK || len(got.f.Nodes) != nodes || len(got.f.Devs) != devs {
		t.Fatalf("%q: %s, not %d nodes, %d devices", short(lines), short(got), nodes, devs)
	}
	takes(t, got.f)
	if count, _ := flat.Unknowns(got.f); count != unknowns {
		t.Errorf("%q: %d unknowns, not %d", short(lines), count, unknowns)
	}
	return got.f
}

// takes fails unless Check says that f is right, and the other calls answer of it what the chapter says.
func takes(t *testing.T, f api.Flat) {
	t.Helper()
	if err := flat.Check(f); err != api.OK {
		t.Fatalf("Check(%s): error %d", short(f), err)
	}
	asked(t, f)
}

// wrong fails unless Check answers that error of f, and the other calls what the chapter says of one that isn't right.
func wrong(t *testing.T, f api.Flat, want api.Errno) {
	t.Helper()
	if err := flat.Check(f); err != want {
		t.Fatalf("Check(%s): error %d, not %d", short(f), err, want)
	}
	if count, branches := flat.Unknowns(f); count != 0 || len(branches) != 0 {
		t.Fatalf("Unknowns(%s): %d %v", short(f), count, branches)
	}
	asked(t, f)
}

// asked fails unless Node, Dev and Unknowns answer of f what the chapter says.
func asked(t *testing.T, f api.Flat) {
	t.Helper()
	names := []string{"", "0", ".", "a", "x1.m", "none", "none.r1"}
	for _, d := range f.Devs[:min(len(f.Devs), 70)] {
		names = append(names, d.Name)
	}
	for _, name := range append(names, f.Nodes[:min(len(f.Nodes), 40)]...) {
		node, nodeErr := meantNode(f, name)
		if got, err := flat.Node(f, name); got != node || err != nodeErr {
			t.Fatalf("Node(%s, %q): %d with error %d, not %d with error %d", short(f), name, got, err, node, nodeErr)
		}
		place, devErr := meantDev(f, name)
		if got, err := flat.Dev(f, name); got != place || err != devErr {
			t.Fatalf("Dev(%s, %q): %d with error %d, not %d with error %d", short(f), name, got, err, place, devErr)
		}
	}
	count, branches := meantUnknowns(f)
	if got, list := flat.Unknowns(f); got != count || !slices.Equal(list, branches) {
		t.Fatalf("Unknowns(%s): %d %v, not %d %v", short(f), got, list, count, branches)
	}
}

// copied is a circuit like c with lists of its own.
func copied(c api.Circuit) api.Circuit {
	c.Models, c.Subs, c.Cards = slices.Clone(c.Models), slices.Clone(c.Subs), copiedCards(c.Cards)
	for i, m := range c.Models {
		c.Models[i] = copiedModel(m)
	}
	for i, s := range c.Subs {
		c.Subs[i].Ports, c.Subs[i].Cards = slices.Clone(s.Ports), copiedCards(s.Cards)
	}
	return c
}

func copiedModel(m api.Model) api.Model {
	m.G, m.V = slices.Clone(m.G), slices.Clone(m.V)
	return m
}

func copiedWave(w api.Wave) api.Wave {
	w.Vals, w.Steps = slices.Clone(w.Vals), slices.Clone(w.Steps)
	return w
}

func copiedCards(l []api.Card) []api.Card {
	l = slices.Clone(l)
	for i, c := range l {
		l[i].Nodes, l[i].Wave = slices.Clone(c.Nodes), copiedWave(c.Wave)
	}
	return l
}

// copiedFlat is a flat circuit like f with lists of its own.
func copiedFlat(f api.Flat) api.Flat {
	f.Nodes, f.Devs = slices.Clone(f.Nodes), slices.Clone(f.Devs)
	for i, d := range f.Devs {
		f.Devs[i].Nodes, f.Devs[i].Wave, f.Devs[i].Model = slices.Clone(d.Nodes), copiedWave(d.Wave), copiedModel(d.Model)
	}
	return f
}
