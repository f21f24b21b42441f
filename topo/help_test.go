package topo_test

import (
	"fmt"
	"slices"
	"strconv"
	"strings"
	"testing"

	"shunt/api"
	"shunt/card"
	"shunt/flat"
	"shunt/netlist"
	"shunt/topo"
)

const allKinds = "rclviegfhtds"

func n(mant int64, exp int) api.Num { return api.Num{Mant: mant, Exp: exp} }

// count are so many lines of the form, in which # stands for the line's number, and ## for the one behind.
func count(form string, from, to int) string {
	var l []string
	for i := from; i <= to; i++ {
		s := strings.ReplaceAll(form, "##", strconv.Itoa(i+1))
		l = append(l, strings.ReplaceAll(s, "#", strconv.Itoa(i)))
	}
	return strings.Join(l, " / ")
}

// laid is the flat circuit of a netlist's lines, parted by strokes with blanks around them.
func laid(lines string) api.Flat {
	c, at, err := netlist.Parse(strings.ReplaceAll(lines, " / ", "\n"))
	if err != api.OK {
		panic(fmt.Sprint(lines, at, err))
	}
	f, err := flat.Flatten(c)
	if err != api.OK {
		panic(fmt.Sprint(lines, err))
	}
	return f
}

// ends are how many nodes a device of that kind has.
func ends(kind byte) int {
	if strings.Contains("egts", string(rune(kind))) {
		return 4
	}
	return 2
}

// dev is the device of a line: its kind, its name, its nodes' numbers, and a value, a wave, a Ref and a value, or a model.
func dev(line string) api.Dev {
	w := strings.Fields(line)
	d := api.Dev{Kind: w[0][0], Name: w[1]}
	words := []string{w[0]}
	w = w[2:]
	for range ends(d.Kind) {
		node, _ := strconv.Atoi(w[0])
		d.Nodes, words, w = append(d.Nodes, node), append(words, "0"), w[1:]
	}
	if strings.Contains("ds", words[0]) {
		m, err := card.ReadModel(append([]string{".model"}, w...))
		if err != api.OK {
			panic(line)
		}
		d.Model = m
		return d
	}
	if strings.Contains("fh", words[0]) {
		d.Ref, _ = strconv.Atoi(w[0])
		words, w = append(words, "v"), w[1:]
	}
	c, err := card.Read(append(words, w...))
	if err != api.OK {
		panic(line)
	}
	d.Value, d.Wave = c.Value, c.Wave
	return d
}

// hand is a flat circuit made by hand, of 1u and Euler: the names of its nodes, and lines of devices.
func hand(nodes string, lines ...string) api.Flat {
	f := api.Flat{Nodes: strings.Fields(nodes), Step: n(1, -6), Method: api.Euler}
	for _, s := range lines {
		f.Devs = append(f.Devs, dev(s))
	}
	return f
}

// told is what the three calls answer.
type told struct {
	floats, loops                []int
	floatsErr, loopsErr, checked api.Errno
}

func tell(f api.Flat, mode int) told {
	var x told
	x.floats, x.floatsErr = topo.Floats(f, mode)
	x.loops, x.loopsErr = topo.Loops(f, mode)
	x.checked = topo.Check(f, mode)
	return x
}

func (a told) is(b told) bool {
	return slices.Equal(a.floats, b.floats) && slices.Equal(a.loops, b.loops) && a.floatsErr == b.floatsErr && a.loopsErr == b.loopsErr && a.checked == b.checked
}

// found is what is to be told of a right flat circuit with such nodes that float and such places that close a loop.
func found(floats, loops []int) told {
	x := told{floats: floats, loops: loops}
	switch {
	case len(floats) > 0:
		x.checked = 100
	case len(loops) > 0:
		x.checked = 101
	}
	return x
}

// short is what is told in a failure, cut where it is too long.
func short(x any) string {
	text := fmt.Sprint(x)
	if len(text) > 900 {
		return text[:900] + ".."
	}
	return text
}

// tells fails unless just the nodes of those names float in that mode, and just the devices of those names close a loop.
func tells(t *testing.T, f api.Flat, mode int, floats, loops string) {
	t.Helper()
	var nodes, places []int
	for i, name := range f.Nodes {
		if slices.Contains(strings.Fields(floats), name) {
			nodes = append(nodes, i)
		}
	}
	for i, d := range f.Devs {
		if slices.Contains(strings.Fields(loops), d.Name) {
			places = append(places, i)
		}
	}
	if len(nodes) != len(strings.Fields(floats)) || len(places) != len(strings.Fields(loops)) {
		t.Fatalf("%s hasn't the nodes %s and the devices %s", short(f), floats, loops)
	}
	if got, want := tell(f, mode), found(nodes, places); !got.is(want) {
		t.Errorf("%s in mode %d: %v, not %v", short(f), mode, got, want)
	}
}

// both fails unless that is told in both modes.
func both(t *testing.T, f api.Flat, floats, loops string) {
	t.Helper()
	tells(t, f, api.Op, floats, loops)
	tells(t, f, api.Tran, floats, loops)
}

// refuses fails unless all calls answer that error, and nothing else.
func refuses(t *testing.T, f api.Flat, mode int, want api.Errno) {
	t.Helper()
	if got := tell(f, mode); !got.is(told{floatsErr: want, loopsErr: want, checked: want}) {
		t.Errorf("%s in mode %d: %v, not error %d", short(f), mode, got, want)
	}
}

// modes are the right ones.
func modes() []int { return []int{api.Op, api.Tran} }

// wrongModes are none.
func wrongModes() []int {
	const most = int(^uint(0) >> 1)
	return []int{0, 3, 4, -1, -2, 12, 255, 256, 257, 258, -255, -254, 1<<16 + 1, 1<<32 + 1, 1<<32 + 2, most, -most, -most - 1}
}

func copiedModel(m api.Model) api.Model {
	m.G, m.V = slices.Clone(m.G), slices.Clone(m.V)
	return m
}

func copiedWave(w api.Wave) api.Wave {
	w.Vals, w.Steps = slices.Clone(w.Vals), slices.Clone(w.Steps)
	return w
}

// copied is a flat circuit like f with lists of its own.
func copied(f api.Flat) api.Flat {
	f.Nodes, f.Devs = slices.Clone(f.Nodes), slices.Clone(f.Devs)
	for i, d := range f.Devs {
		f.Devs[i].Nodes, f.Devs[i].Wave, f.Devs[i].Model = slices.Clone(d.Nodes), copiedWave(d.Wave), copiedModel(d.Model)
	}
	return f
}

// with is f with one device more.
func with(f api.Flat, line string) api.Flat {
	f = copied(f)
	f.Devs = append(f.Devs, dev(line))
	return f
}
