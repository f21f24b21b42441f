package netlist_test

import (
	"reflect"
	"runtime"
	"slices"
	"strings"
	"testing"
	"unsafe"

	"shunt/api"
	"shunt/netlist"
)

// A span is a piece of memory.
type span struct {
	from, to uintptr
	what     string
}

// room is where a list lies, its spare room too.
func room[T any](l []T, what string) span {
	l = l[:cap(l)]
	from := uintptr(unsafe.Pointer(unsafe.SliceData(l)))
	return span{from, from + uintptr(len(l))*unsafe.Sizeof(*new(T)), what}
}

func textRoom(s, what string) span {
	from := uintptr(unsafe.Pointer(unsafe.StringData(s)))
	return span{from, from + uintptr(len(s)), what}
}

// meets says whether two pieces have a byte in common.
func (a span) meets(b span) bool { return a.from < b.to && b.from < a.to }

// lists are where all lists of a circuit lie.
func lists(c api.Circuit) []span {
	l := []span{room(c.Models, "Models"), room(c.Subs, "Subs")}
	for _, m := range c.Models {
		l = append(l, room(m.G, m.Name+".G"), room(m.V, m.Name+".V"))
	}
	for _, s := range c.Subs {
		l = append(l, room(s.Ports, s.Name+".Ports"))
		l = append(l, cardLists(s.Cards, s.Name)...)
	}
	return append(l, cardLists(c.Cards, "")...)
}

func cardLists(cards []api.Card, of string) []span {
	l := []span{room(cards, of+".Cards")}
	for _, x := range cards {
		l = append(l, room(x.Nodes, of+"."+x.Name+".Nodes"), room(x.Wave.Vals, of+"."+x.Name+".Vals"), room(x.Wave.Steps, of+"."+x.Name+".Steps"))
	}
	return l
}

// texts are where all names of a circuit lie. The library keeps texts of one byte in one place, whoever builds them.
func texts(c api.Circuit) []span {
	var names []string
	add := func(cards []api.Card) {
		for _, x := range cards {
			names = append(append(names, x.Name, x.Ref), x.Nodes...)
		}
	}
	for _, m := range c.Models {
		names = append(names, m.Name)
	}
	for _, s := range c.Subs {
		names = append(append(names, s.Name), s.Ports...)
		add(s.Cards)
	}
	add(c.Cards)
	var l []span
	for _, s := range names {
		if len(s) > 1 {
			l = append(l, textRoom(s, s))
		}
	}
	return l
}

// apart fails if two pieces of different lists meet.
func apart(t *testing.T, a, b []span) {
	t.Helper()
	for _, x := range a {
		for _, y := range b {
			if x.meets(y) {
				t.Fatalf("%q and %q share memory", x.what, y.what)
			}
		}
	}
}

// netlists are texts, some of them wrong.
func netlists() []string {
	d := dice(87)
	l := []string{"", "r1 a 0 1", rows(div), ".foo", ".subckt s a", "d1 aa 00 nomodel", rows(behind(div, "x1 a div")), "+"}
	for len(l) < 150 {
		c := d.circuit()
		if len(meantText(c)) > 6000 {
			continue
		}
		lines := d.lines(c)
		if d.one(5) {
			lines = d.spoiled(lines)
		}
		l = append(l, d.dressed(lines))
	}
	return l
}

// The lists of an answer lie apart from one another, with their spare rooms, and the names apart from the text.
func TestNoTwoListsShareMemory(t *testing.T) {
	for _, s := range netlists() {
		text := strings.Clone(s)
		c := tell(text).c
		l := lists(c)
		for i := range l {
			apart(t, l[i:i+1], l[i+1:])
		}
		apart(t, texts(c), []span{textRoom(text, "the text")})
		again := tell(text).c
		apart(t, l, lists(again))
		// Memory that nobody holds any more may be given anew.
		runtime.KeepAlive(c)
		runtime.KeepAlive(again)
		if text != s {
			t.Fatalf("%q is %q behind the call", s, text)
		}
	}
}

// scribble writes over all that a circuit's lists hold, their spare rooms too.
func scribble(c api.Circuit) {
	for _, m := range c.Models {
		fill(m.G, n(77, 3))
		fill(m.V, n(77, 3))
	}
	for _, s := range c.Subs {
		fill(s.Ports, "scribble")
		scribbleCards(s.Cards)
	}
	scribbleCards(c.Cards)
	fill(c.Models, api.Model{Name: "scribble"})
	fill(c.Subs, api.Sub{Name: "scribble"})
}

func scribbleCards(cards []api.Card) {
	for _, x := range cards {
		fill(x.Nodes, "scribble")
		fill(x.Wave.Vals, n(77, 3))
		fill(x.Wave.Steps, 77)
	}
	fill(cards, api.Card{Name: "scribble"})
}

func fill[T any](l []T, with T) {
	l = l[:cap(l)]
	for i := range l {
		l[i] = with
	}
}

// An answer hangs on nothing but the text: not on answers given before, written over or not, nor on other texts.
func TestNothingIsKept(t *testing.T) {
	l := netlists()
	var wants []told
	for _, s := range l {
		got := tell(s)
		wants = append(wants, told{copied(got.c), got.at, got.err})
	}
	for i, s := range l {
		got := tell(s)
		tell(l[(i+7)%len(l)])
		if !got.is(wants[i]) {
			t.Fatalf("%q: an answer changes with a later call", s)
		}
		scribble(got.c)
		if again := tell(s); !again.is(wants[i]) {
			t.Fatalf("%q: another answer behind a scribble", s)
		}
	}
}

// roomy is l with spare room behind it, and something in it.
func roomy[T any](l []T, spare ...T) []T { return append(slices.Clone(l), spare...)[:len(l)] }

// made is a circuit like c whose lists have spare room, with things in it that aren't right.
func made(c api.Circuit) api.Circuit {
	c = copied(c)
	for i, m := range c.Models {
		c.Models[i].G, c.Models[i].V = roomy(m.G, n(10, 99)), roomy(m.V, n(10, 99))
	}
	for i, s := range c.Subs {
		c.Subs[i].Ports, c.Subs[i].Cards = roomy(s.Ports, "0", "spare"), madeCards(s.Cards)
	}
	c.Models, c.Subs, c.Cards = roomy(c.Models, api.Model{Name: "spare"}), roomy(c.Subs, api.Sub{Name: "spare"}), madeCards(c.Cards)
	return c
}

func madeCards(l []api.Card) []api.Card {
	l = slices.Clone(l)
	for i, x := range l {
		l[i].Nodes, l[i].Wave.Vals, l[i].Wave.Steps = roomy(x.Nodes, "0", "spare"), roomy(x.Wave.Vals, n(10, 99)), roomy(x.Wave.Steps, -1)
	}
	return roomy(l, api.Card{Name: "spare"})
}

// whole is a copy of c with all that its lists hold, their spare rooms too.
func whole(c api.Circuit) api.Circuit {
	c.Models, c.Subs = slices.Clone(c.Models[:cap(c.Models)]), slices.Clone(c.Subs[:cap(c.Subs)])
	for i, m := range c.Models {
		c.Models[i].G, c.Models[i].V = slices.Clone(m.G[:cap(m.G)]), slices.Clone(m.V[:cap(m.V)])
	}
	for i, s := range c.Subs {
		c.Subs[i].Ports, c.Subs[i].Cards = slices.Clone(s.Ports[:cap(s.Ports)]), wholeCards(s.Cards)
	}
	c.Cards = wholeCards(c.Cards)
	return c
}

func wholeCards(l []api.Card) []api.Card {
	l = slices.Clone(l[:cap(l)])
	for i, x := range l {
		w := x.Wave
		l[i].Nodes, l[i].Wave.Vals, l[i].Wave.Steps = slices.Clone(x.Nodes[:cap(x.Nodes)]), slices.Clone(w.Vals[:cap(w.Vals)]), slices.Clone(w.Steps[:cap(w.Steps)])
	}
	return l
}

// Check and Print leave a circuit as it was, its spare rooms too, which have no say; and what is printed lies elsewhere.
func TestCircuitsAreLeftAsTheyWere(t *testing.T) {
	d := dice(88)
	for range 1500 {
		own := d.circuit()
		if d.one(2) {
			own = d.spoil(own)
		}
		c := made(own)
		was := whole(c)
		err := netlist.Check(c)
		text, printErr := netlist.Print(c)
		if !reflect.DeepEqual(whole(c), was) {
			t.Fatalf("%v is %v behind the calls", was, whole(c))
		}
		apart(t, texts(c), []span{textRoom(text, "the print")})
		want := strings.Clone(text)
		scribble(c)
		again, againErr := netlist.Print(own)
		if text != want || again != want || againErr != printErr || netlist.Check(own) != err {
			t.Fatalf("%v: %q with error %d, and %q with error %d behind a scribble", own, short(want), printErr, short(again), againErr)
		}
	}
}
