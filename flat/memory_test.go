package flat_test

import (
	"reflect"
	"runtime"
	"slices"
	"testing"
	"unsafe"

	"shunt/api"
	"shunt/flat"
)

// A span is a piece of memory.
type span struct {
	from, to uintptr
	what     string
}

// room is where a list lies, its spare room too.
func room[T any](l []T, what string) span {
	l = l[:cap(l)]
	from := uintptr(unsafe.Pointer(unsafe.SliceData(l)))
	return span{from, from + uintptr(len(l))*unsafe.Sizeof(*new(T)), what}
}

func textRoom(s string) span {
	from := uintptr(unsafe.Pointer(unsafe.StringData(s)))
	return span{from, from + uintptr(len(s)), s}
}

// meets says whether two pieces have a byte in common.
func (a span) meets(b span) bool { return a.from < b.to && b.from < a.to }

// lists are where all lists of a flat circuit lie.
func lists(f api.Flat) []span {
	l := []span{room(f.Nodes, "Nodes"), room(f.Devs, "Devs")}
	for _, d := range f.Devs {
		l = append(l, room(d.Nodes, d.Name+" Nodes"), room(d.Wave.Vals, d.Name+" Vals"), room(d.Wave.Steps, d.Name+" Steps"),
			room(d.Model.G, d.Name+" G"), room(d.Model.V, d.Name+" V"))
	}
	return l
}

// circuitLists are where all lists of a circuit lie.
func circuitLists(c api.Circuit) []span {
	l := []span{room(c.Models, "models"), room(c.Subs, "subs")}
	for _, m := range c.Models {
		l = append(l, room(m.G, m.Name+" G"), room(m.V, m.Name+" V"))
	}
	for _, s := range append(slices.Clone(c.Subs), api.Sub{Cards: c.Cards}) {
		l = append(l, room(s.Ports, s.Name+" ports"), room(s.Cards, s.Name+" cards"))
		for _, x := range s.Cards {
			l = append(l, room(x.Nodes, x.Name+" nodes"), room(x.Wave.Vals, x.Name+" vals"), room(x.Wave.Steps, x.Name+" steps"))
		}
	}
	return l
}

// texts are where texts lie. The library keeps texts of one byte in one place, whoever builds them.
func texts(names ...string) []span {
	var l []span
	for _, s := range names {
		if len(s) > 1 {
			l = append(l, textRoom(s))
		}
	}
	return l
}

func flatTexts(f api.Flat) []span {
	l := texts(f.Nodes...)
	for _, d := range f.Devs {
		l = append(l, texts(d.Name, d.Model.Name)...)
	}
	return l
}

func circuitTexts(c api.Circuit) []span {
	var l []span
	for _, m := range c.Models {
		l = append(l, texts(m.Name)...)
	}
	for _, s := range append(slices.Clone(c.Subs), api.Sub{Cards: c.Cards}) {
		l = append(l, texts(append([]string{s.Name}, s.Ports...)...)...)
		for _, x := range s.Cards {
			l = append(l, texts(append([]string{x.Name, x.Ref}, x.Nodes...)...)...)
		}
	}
	return l
}

// apart fails if a piece of the one meets one of the other.
func apart(t *testing.T, a, b []span) {
	t.Helper()
	for _, x := range a {
		for _, y := range b {
			if x.meets(y) {
				t.Fatalf("%q and %q share memory", x.what, y.what)
			}
		}
	}
}

// parsed is a circuit like c whose texts lie in memory of their own, as those of a netlist that was read.
func parsed(c api.Circuit) api.Circuit {
	anew := func(s *string) { *s = string([]byte(*s)) }
	c = copied(c)
	for i := range c.Models {
		anew(&c.Models[i].Name)
	}
	fresh := func(cards []api.Card) {
		for i := range cards {
			anew(&cards[i].Name)
			anew(&cards[i].Ref)
			for k := range cards[i].Nodes {
				anew(&cards[i].Nodes[k])
			}
		}
	}
	for i := range c.Subs {
		anew(&c.Subs[i].Name)
		for k := range c.Subs[i].Ports {
			anew(&c.Subs[i].Ports[k])
		}
		fresh(c.Subs[i].Cards)
	}
	fresh(c.Cards)
	return c
}

// circuits are some of each kind: small ones, full ones, and such as are refused.
func circuits() []api.Circuit {
	lines, models, _ := every()
	l := []api.Circuit{
		circuit(""), circuit(behind(models, lines)), circuit(behind(models, ".subckt all a e", lines, ".ends / x1 a b all / x22 b a all / r1 a b 1")), {},
		circuit(behind(doubled(), "x1 a s8")), circuit(count("v# a 0 1", 1, 48)), circuit(".model mm d 1 / d11 aa bb mm / d22 aa bb mm / d33 bb aa mm"),
	}
	d := dice(97)
	for len(l) < 250 {
		l = append(l, d.circuit(8))
	}
	return l
}

// The lists of an answer lie apart from one another, from those of another answer, and from the circuit's, with their spare
// rooms; its names lie apart from the circuit's.
func TestNoTwoListsShareMemory(t *testing.T) {
	for _, c := range circuits() {
		c = parsed(c)
		f := tell(c).f
		l := lists(f)
		for i := range l {
			apart(t, l[i:i+1], l[i+1:])
		}
		apart(t, l, circuitLists(c))
		apart(t, flatTexts(f), circuitTexts(c))
		again := tell(c).f
		apart(t, l, lists(again))
		_, branches := flat.Unknowns(f)
		_, others := flat.Unknowns(f)
		apart(t, []span{room(branches, "branches")}, append(l, room(others, "branches of another call")))
		// Memory that nobody holds any more may be given anew.
		runtime.KeepAlive(c)
		runtime.KeepAlive(f)
		runtime.KeepAlive(again)
		runtime.KeepAlive(others)
	}
}

func fill[T any](l []T, with T) {
	l = l[:cap(l)]
	for i := range l {
		l[i] = with
	}
}

// scribble writes over all that a flat circuit's lists hold, their spare rooms too.
func scribble(f api.Flat) {
	for _, d := range f.Devs {
		fill(d.Nodes, 77)
		fill(d.Wave.Vals, n(77, 3))
		fill(d.Wave.Steps, 77)
		fill(d.Model.G, n(77, 3))
		fill(d.Model.V, n(77, 3))
	}
	fill(f.Nodes, "scribble")
	fill(f.Devs, api.Dev{Name: "scribble"})
}

func scribbleCircuit(c api.Circuit) {
	for _, m := range c.Models {
		fill(m.G, n(77, 3))
		fill(m.V, n(77, 3))
	}
	for _, s := range append(slices.Clone(c.Subs), api.Sub{Cards: c.Cards}) {
		for _, x := range s.Cards {
			fill(x.Nodes, "scribble")
			fill(x.Wave.Vals, n(77, 3))
			fill(x.Wave.Steps, 77)
		}
		fill(s.Ports, "scribble")
		fill(s.Cards, api.Card{Name: "scribble"})
	}
	fill(c.Models, api.Model{Name: "scribble"})
	fill(c.Subs, api.Sub{Name: "scribble"})
}

// roomy is l with spare room behind it, and something in it.
func roomy[T any](l []T, spare ...T) []T { return append(slices.Clone(l), spare...)[:len(l)] }

// whole is l with all that its spare room holds.
func whole[T any](l []T, spare ...T) []T { return slices.Clone(l[:cap(l)]) }

// A change does something with each list of a circuit.
type change struct {
	texts func(l []string, spare ...string) []string
	nums  func(l []api.Num, spare ...api.Num) []api.Num
	ints  func(l []int, spare ...int) []int
}

func roomier() change { return change{roomy[string], roomy[api.Num], roomy[int]} }

func wholly() change { return change{whole[string], whole[api.Num], whole[int]} }

func (x change) wave(w api.Wave) api.Wave {
	return api.Wave{Kind: w.Kind, Vals: x.nums(w.Vals, n(10, 99)), Steps: x.ints(w.Steps, -1)}
}

func (x change) model(m api.Model) api.Model {
	return api.Model{Name: m.Name, Kind: m.Kind, G: x.nums(m.G, n(10, 99)), V: x.nums(m.V, n(10, 99))}
}

func (x change) cards(l []api.Card) []api.Card {
	l = slices.Clone(l)
	for i, c := range l {
		l[i].Nodes, l[i].Wave = x.texts(c.Nodes, "0", "spare"), x.wave(c.Wave)
	}
	return l
}

// made is a circuit like c whose lists have spare room, with things in it that aren't right.
func made(c api.Circuit) api.Circuit {
	x := roomier()
	c.Models, c.Subs, c.Cards = roomy(c.Models, api.Model{Name: "spare"}), roomy(c.Subs, api.Sub{Name: "spare"}), roomy(x.cards(c.Cards), api.Card{Name: "spare"})
	for i, m := range c.Models {
		c.Models[i] = x.model(m)
	}
	for i, s := range c.Subs {
		c.Subs[i].Ports, c.Subs[i].Cards = x.texts(s.Ports, "0", "spare"), roomy(x.cards(s.Cards), api.Card{Name: "spare"})
	}
	return c
}

// wholeCircuit is a copy of c with all that its lists hold, their spare rooms too.
func wholeCircuit(c api.Circuit) api.Circuit {
	x := wholly()
	c.Models, c.Subs, c.Cards = whole(c.Models), whole(c.Subs), x.cards(whole(c.Cards))
	for i, m := range c.Models {
		c.Models[i] = x.model(m)
	}
	for i, s := range c.Subs {
		c.Subs[i].Ports, c.Subs[i].Cards = x.texts(s.Ports), x.cards(whole(s.Cards))
	}
	return c
}

func (x change) devs(l []api.Dev) []api.Dev {
	l = slices.Clone(l)
	for i, d := range l {
		l[i].Nodes, l[i].Wave, l[i].Model = x.ints(d.Nodes, -1, 99), x.wave(d.Wave), x.model(d.Model)
	}
	return l
}

// madeFlat is a flat circuit like f whose lists have spare room, with things in it that aren't right.
func madeFlat(f api.Flat) api.Flat {
	f.Nodes, f.Devs = roomy(f.Nodes, "0", "Spare"), roomy(roomier().devs(f.Devs), api.Dev{Name: "spare"})
	return f
}

func wholeFlat(f api.Flat) api.Flat {
	f.Nodes, f.Devs = whole(f.Nodes), wholly().devs(whole(f.Devs))
	return f
}

// Flatten leaves a circuit as it was, its spare rooms too, which have no say; neither what becomes of the circuit nor what
// becomes of an answer is to be seen in another answer.
func TestCircuitsAreLeftAsTheyWere(t *testing.T) {
	l := circuits()
	for i, own := range l {
		c := made(own)
		was := wholeCircuit(c)
		got := tell(c)
		if !reflect.DeepEqual(wholeCircuit(c), was) {
			t.Fatalf("%v is %v behind the call", was, wholeCircuit(c))
		}
		want := told{copiedFlat(got.f), got.err}
		tell(l[(i+7)%len(l)])
		scribbleCircuit(c)
		if !got.is(want) {
			t.Fatalf("%v: an answer changes with what becomes of the circuit", own)
		}
		scribble(got.f)
		if again := tell(own); !again.is(want) {
			t.Fatalf("%v: %v, and %v behind a scribble", own, want, again)
		}
	}
}

// Check, Node, Dev and Unknowns leave a flat circuit as it was, its spare rooms too, which have no say.
func TestFlatsAreLeftAsTheyWere(t *testing.T) {
	d := dice(98)
	for range 1500 {
		own := d.flat()
		for d.one(2) {
			own = d.spoil(own)
		}
		f := madeFlat(own)
		was := wholeFlat(f)
		if err := flat.Check(f); err != flat.Check(own) || err != meantCheck(own) {
			t.Fatalf("Check(%v): error %d", own, err)
		}
		asked(t, f)
		count, branches := flat.Unknowns(f)
		if !reflect.DeepEqual(wholeFlat(f), was) {
			t.Fatalf("%v is %v behind the calls", was, wholeFlat(f))
		}
		want := slices.Clone(branches)
		scribble(f)
		if !slices.Equal(branches, want) {
			t.Fatalf("%v: branches change with the flat circuit", own)
		}
		fill(branches, 77)
		if again, others := flat.Unknowns(own); again != count || !slices.Equal(others, want) {
			t.Fatalf("Unknowns(%v): %d %v, and %d %v behind a scribble", own, count, want, again, others)
		}
	}
}
