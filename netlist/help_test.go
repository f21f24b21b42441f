package netlist_test

import (
	"fmt"
	"slices"
	"strconv"
	"strings"
	"testing"

	"shunt/api"
	"shunt/card"
	"shunt/netlist"
)

// div is the chapter's subcircuit.
const div = ".subckt div in out / r1 in out 1k / r2 out 0 1k / .ends"

// rows is a text of the lines that stand in l, parted by a stroke with blanks around it.
func rows(l string) string { return strings.ReplaceAll(l, " / ", "\n") }

// behind are texts of lines, one behind the other.
func behind(l ...string) string { return strings.Join(l, " / ") }

// count are so many lines of the form, in which # stands for the line's number.
func count(form string, from, to int) string {
	var l []string
	for i := from; i <= to; i++ {
		l = append(l, strings.ReplaceAll(form, "#", strconv.Itoa(i)))
	}
	return strings.Join(l, " / ")
}

func n(mant int64, exp int) api.Num { return api.Num{Mant: mant, Exp: exp} }

// cards are those of the lines.
func cards(lines ...string) []api.Card {
	var l []api.Card
	for _, s := range lines {
		c, err := card.Read(strings.Fields(s))
		if err != api.OK {
			panic(s)
		}
		l = append(l, c)
	}
	return l
}

// models are those of the lines, which have no .model ahead.
func models(lines ...string) []api.Model {
	var l []api.Model
	for _, s := range lines {
		m, err := card.ReadModel(append([]string{".model"}, strings.Fields(s)...))
		if err != api.OK {
			panic(s)
		}
		l = append(l, m)
	}
	return l
}

// sub is a subcircuit with the ports that stand in a text.
func sub(name, ports string, cards ...api.Card) api.Sub {
	return api.Sub{Name: name, Ports: strings.Fields(ports), Cards: cards}
}

// plain is a circuit of these cards, without .step and .method.
func plain(l ...string) api.Circuit {
	return api.Circuit{Step: n(1, -6), Method: api.Euler, Cards: cards(l...)}
}

func sameCard(a, b api.Card) bool {
	return a.Name == b.Name && slices.Equal(a.Nodes, b.Nodes) && a.Ref == b.Ref && a.Value == b.Value &&
		a.Wave.Kind == b.Wave.Kind && slices.Equal(a.Wave.Vals, b.Wave.Vals) && slices.Equal(a.Wave.Steps, b.Wave.Steps)
}

func sameModel(a, b api.Model) bool {
	return a.Name == b.Name && a.Kind == b.Kind && slices.Equal(a.G, b.G) && slices.Equal(a.V, b.V)
}

func sameSub(a, b api.Sub) bool {
	return a.Name == b.Name && slices.Equal(a.Ports, b.Ports) && slices.EqualFunc(a.Cards, b.Cards, sameCard)
}

func same(a, b api.Circuit) bool {
	return a.Step == b.Step && a.Method == b.Method && slices.EqualFunc(a.Models, b.Models, sameModel) &&
		slices.EqualFunc(a.Subs, b.Subs, sameSub) && slices.EqualFunc(a.Cards, b.Cards, sameCard)
}

// told is what Parse answers.
type told struct {
	c   api.Circuit
	at  int
	err api.Errno
}

func tell(text string) told {
	c, at, err := netlist.Parse(text)
	return told{c, at, err}
}

func (a told) is(b told) bool { return same(a.c, b.c) && a.at == b.at && a.err == b.err }

// short is what is told in a failure, cut where it is too long.
func short(x any) string {
	text := fmt.Sprint(x)
	if len(text) > 900 {
		return text[:900] + ".."
	}
	return text
}

// reads fails unless the lines are read as that circuit.
func reads(t *testing.T, lines string, want api.Circuit) {
	t.Helper()
	if got := tell(rows(lines)); !got.is(told{want, 0, api.OK}) {
		t.Errorf("%q: %s, not %s", short(lines), short(got), short(want))
	}
}

// right fails unless the lines are read, with so many models, subcircuits and cards.
func right(t *testing.T, lines string, models, subs, cards int) api.Circuit {
	t.Helper()
	got := tell(rows(lines))
	if got.err != api.OK || got.at != 0 || len(got.c.Models) != models || len(got.c.Subs) != subs || len(got.c.Cards) != cards {
		t.Errorf("%q: %s, not %d models, %d subcircuits, %d cards", short(lines), short(got), models, subs, cards)
	}
	return got.c
}

// refuses fails unless Parse answers that error with that place, and nothing else.
func refuses(t *testing.T, lines string, at int, err api.Errno) {
	t.Helper()
	if got := tell(rows(lines)); !got.is(told{api.Circuit{}, at, err}) {
		t.Errorf("%q: %s, not error %d at %d", short(lines), short(got), err, at)
	}
}

// prints fails unless the circuit is right and has these lines.
func prints(t *testing.T, c api.Circuit, lines string) {
	t.Helper()
	if err := netlist.Check(c); err != api.OK {
		t.Errorf("Check(%s): error %d", short(c), err)
	}
	if got, err := netlist.Print(c); got != rows(lines)+"\n" || err != api.OK {
		t.Errorf("Print(%s): %q with error %d, not %q", short(c), short(got), err, short(lines))
	}
}

// wrong fails unless Check and Print answer that error, and nothing else.
func wrong(t *testing.T, c api.Circuit, want api.Errno) {
	t.Helper()
	if err := netlist.Check(c); err != want {
		t.Errorf("Check(%s): error %d, not %d", short(c), err, want)
	}
	if text, err := netlist.Print(c); text != "" || err != want {
		t.Errorf("Print(%s): %q with error %d, not %d", short(c), short(text), err, want)
	}
}

// copied is a circuit like c with lists of its own.
func copied(c api.Circuit) api.Circuit {
	c.Models, c.Subs, c.Cards = slices.Clone(c.Models), slices.Clone(c.Subs), copiedCards(c.Cards)
	for i, m := range c.Models {
		c.Models[i].G, c.Models[i].V = slices.Clone(m.G), slices.Clone(m.V)
	}
	for i, s := range c.Subs {
		c.Subs[i].Ports, c.Subs[i].Cards = slices.Clone(s.Ports), copiedCards(s.Cards)
	}
	return c
}

func copiedCards(l []api.Card) []api.Card {
	l = slices.Clone(l)
	for i, c := range l {
		l[i].Nodes, l[i].Wave.Vals, l[i].Wave.Steps = slices.Clone(c.Nodes), slices.Clone(c.Wave.Vals), slices.Clone(c.Wave.Steps)
	}
	return l
}
