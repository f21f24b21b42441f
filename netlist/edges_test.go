package netlist_test

import (
	"strings"
	"testing"

	"shunt/api"
	"shunt/netlist"
)

func TestTextsThatSayNothing(t *testing.T) {
	for _, s := range []string{"", "\n", " \t\r\n", "* title", "; r1 a 0 1", "\n\n* .end\n;\n"} {
		reads(t, s, plain())
		reads(t, s+"\n.end", plain())
		reads(t, s+"\nr1 a 0 1", plain("r1 a 0 1"))
	}
	prints(t, plain(), ".step 1u / .method euler / .end")
}

// Every kind of line in one netlist.
func TestEveryKindOfLine(t *testing.T) {
	c := api.Circuit{
		Step: n(25, -5), Method: api.Trap, Models: models("dio d 1u 0.7 100m", "sw s 1n 2.5 1", "one d 3"),
		Subs: []api.Sub{
			sub("amp", "in out", cards("e1 out 0 in 0 10", "v1 in m 0", "f1 m 0 v1 2", "h1 out m v1 -3", "d1 m 0 dio")...),
			sub("two", "a b c", cards("x1 a b amp", "x2 b c amp", "r1 a c 5")...),
		},
		Cards: cards("v1 a 0 pulse 0 5 1 2 1 1 8", "i1 a b pwl 0 1 2 3", "i2 b 0 table 1 2 3", "v2 c 0 dc 4", "r1 a b 1000", "c1 b 0 1u", "l1 b c 1m",
			"g1 a 0 b 0 2", "t1 a 0 c 0 3", "f1 a 0 v1 1", "h1 d 0 v2 1", "d1 a d one", "s1 a d b 0 sw", "x1 a b amp", "x2 a b c two"),
	}
	subs := ".subckt amp in out / e1 out 0 in 0 10 / v1 in m dc 0 / f1 m 0 v1 2 / h1 out m v1 -3 / d1 m 0 dio / .ends / " +
		".subckt two a b c / x1 a b amp / x2 b c amp / r1 a c 5 / .ends"
	own := "v1 a 0 pulse 0 5 1 2 1 1 8 / i1 a b pwl 0 1 2 3 / i2 b 0 table 1 2 3 / v2 c 0 dc 4 / r1 a b 1k / c1 b 0 1u / l1 b c 1m / " +
		"g1 a 0 b 0 2 / t1 a 0 c 0 3 / f1 a 0 v1 1 / h1 d 0 v2 1 / d1 a d one / s1 a d b 0 sw / x1 a b amp / x2 a b c two"
	models := ".model dio d 1u 700m 100m / .model sw s 1n 2500m 1 / .model one d 3"
	reads(t, behind(".step 250u", ".method trap", models, subs, own, ".end"), c)
	reads(t, behind(own, subs, models, ".method trap", ".step 0.25m"), c)
	reads(t, strings.ToUpper(behind(own, models, ".METHOD trap", subs, ".step 250u", ".end")), c)
	prints(t, c, behind(".step 250u", ".method trap", models, subs, own, ".end"))
}

func TestSettings(t *testing.T) {
	for _, s := range []struct {
		lines, printed string
		step           api.Num
		method         int
	}{
		{"", ".step 1u / .method euler", n(1, -6), api.Euler},
		{".step 2m", ".step 2m / .method euler", n(2, -3), api.Euler},
		{".method trap", ".step 1u / .method trap", n(1, -6), api.Trap},
		{".method euler", ".step 1u / .method euler", n(1, -6), api.Euler},
		{".method trap / .step 1e-18", ".step 1e-18 / .method trap", n(1, -18), api.Trap},
		{".step 1u / .method euler", ".step 1u / .method euler", n(1, -6), api.Euler},
		{".step 999999999000000000", ".step 999999999g / .method euler", n(999999999, 9), api.Euler},
		{".step 004.70k", ".step 4700 / .method euler", n(47, 2), api.Euler},
		{".Step 1MEG / .METHOD Trap", ".step 1meg / .method trap", n(1, 6), api.Trap},
		{"r1 a 0 1 / .step 3 / .method trap", ".step 3 / .method trap", n(3, 0), api.Trap},
	} {
		c := tell(rows(s.lines)).c
		if c.Step != s.step || c.Method != s.method || tell(rows(s.lines)).err != 0 {
			t.Errorf("%q: %v", s.lines, tell(rows(s.lines)))
		}
		c.Cards = nil
		prints(t, c, s.printed+" / .end")
	}
}

// A line that goes on is one with the line that it goes on with, and is told by that one's number.
func TestLinesThatGoOn(t *testing.T) {
	reads(t, "r1 a / + 0 / + / +1k", plain("r1 a 0 1k"))
	reads(t, ".step / + 2 / .method / +trap", api.Circuit{Step: n(2, 0), Method: api.Trap})
	reads(t, ".subckt s / + a / +b / r1 / + a b 1 / .ends / x1 / * c / + p q / + s / .end / +", api.Circuit{
		Step: n(1, -6), Method: api.Euler, Subs: []api.Sub{sub("s", "a b", cards("r1 a b 1")...)}, Cards: cards("x1 p q s"),
	})
	refuses(t, "r1 a 0 1 / + / r2 a / + 0 / + 0", 3, api.ErrZero)
	refuses(t, "* t / .subckt s / + a", 2, api.ErrOrder)
	refuses(t, ".end / + x", 1, api.ErrCard)
	refuses(t, "d1 a / + 0 m / r1 a 0 1", 1, api.ErrRef)
}

func TestPorts(t *testing.T) {
	names := strings.Fields("p1 p2 p3 p4 p5 p6 p7 p8")
	for k := 1; k <= api.MaxPorts; k++ {
		ports := strings.Join(names[:k], " ")
		c := api.Circuit{Step: n(1, -6), Method: api.Euler, Subs: []api.Sub{sub("s", ports)}, Cards: cards("x1 " + ports + " s")}
		reads(t, ".subckt s "+ports+" / .ends / x1 "+ports+" s", c)
		prints(t, c, ".step 1u / .method euler / .subckt s "+ports+" / .ends / x1 "+ports+" s / .end")
		for other := 1; other <= api.MaxPorts; other++ {
			if other != k {
				refuses(t, ".subckt s "+ports+" / .ends / x1 "+strings.Join(names[:other], " ")+" s", 3, api.ErrPorts)
				c.Cards = cards("x1 " + strings.Join(names[:other], " ") + " s")
				wrong(t, c, api.ErrPorts)
			}
		}
	}
	refuses(t, ".subckt s / .ends", 1, api.ErrCard)
	refuses(t, ".subckt s "+strings.Join(names, " ")+" p9 / .ends", 1, api.ErrCard)
	c := plain()
	c.Subs = []api.Sub{sub("s", "")}
	wrong(t, c, api.ErrCard)
	c.Subs = []api.Sub{sub("s", "p1 p2 p3 p4 p5 p6 p7 p8 p9")}
	wrong(t, c, api.ErrCard)
}

// Names of one byte and of as many as may be; names that are words elsewhere; one name for things of different lists.
func TestNames(t *testing.T) {
	long := strings.Repeat("n", 16)
	c := api.Circuit{
		Step: n(1, -6), Method: api.Euler, Models: models("0 d 1", long+" s 1 2 3"),
		Subs:  []api.Sub{sub("0", "00 1"), sub(long, long+" euler", cards("r a 0 1")...), sub("dio", "a b")},
		Cards: cards("r a 0 1", "x a b "+long, "d a b 0", "s a b 0 0 "+long, "x0 0 0 0"),
	}
	lines := ".model 0 d 1 / .model " + long + " s 1 2 3 / .subckt 0 00 1 / .ends / .subckt " + long + " " + long + " euler / r a 0 1 / .ends / " +
		".subckt dio a b / .ends / r a 0 1 / x a b " + long + " / d a b 0 / s a b 0 0 " + long + " / x0 0 0 0"
	reads(t, lines, c)
	prints(t, c, ".step 1u / .method euler / "+lines+" / .end")
	right(t, ".subckt a a / .ends / .model a d 1 / d1 a 0 a / x1 a a / .subckt d1 d1 / d1 d1 d1 a / .ends", 1, 2, 2)
	right(t, "r1 a 0 1 / .subckt s a / r1 a 0 1 / .ends / .subckt q a / r1 a 0 1 / .ends", 0, 2, 1)
}

func TestAsManyAsMayBe(t *testing.T) {
	most := count(".model m# d 1", 1, api.MaxModels)
	right(t, most, api.MaxModels, 0, 0)
	refuses(t, behind(most, ".model n d 1"), api.MaxModels+1, api.ErrMany)
	refuses(t, behind(most, "r1 a 0 1", ".model n d 1"), api.MaxModels+2, api.ErrMany)

	most = count(".subckt s# a / .ends", 1, api.MaxSubs)
	right(t, most, 0, api.MaxSubs, 0)
	refuses(t, behind(most, ".subckt q a", ".ends"), 2*api.MaxSubs+1, api.ErrMany)
	refuses(t, behind(most, "r1 a 0 1", ".subckt q a"), 2*api.MaxSubs+2, api.ErrMany)

	most = count("r# a 0 1", 1, api.MaxCards)
	right(t, most, 0, 0, api.MaxCards)
	refuses(t, behind(most, "c1 a 0 1"), api.MaxCards+1, api.ErrMany)
	in := behind(".subckt s a", most)
	if c := right(t, behind(in, ".ends"), 0, 1, 0); len(c.Subs) != 1 || len(c.Subs[0].Cards) != api.MaxCards {
		t.Error(c)
	}
	refuses(t, behind(in, "c1 a 0 1", ".ends"), api.MaxCards+2, api.ErrMany)
	// Each list counts for itself.
	text := most
	for i := range api.MaxSubs {
		text = behind(text, count(".subckt s# a", i, i), most, ".ends")
	}
	c := right(t, text, 0, api.MaxSubs, api.MaxCards)
	for _, s := range c.Subs {
		if len(s.Cards) != api.MaxCards {
			t.Error(s)
		}
	}
}

// The counts of Check: as many as may be are right, one more isn't.
func TestAsManyAsMayBeByHand(t *testing.T) {
	models := tell(rows(count(".model m# d 1", 1, api.MaxModels))).c
	subs := tell(rows(count(".subckt s# a / .ends", 1, api.MaxSubs))).c
	own := tell(rows(count("r# a 0 1", 1, api.MaxCards))).c
	inside := plain()
	inside.Subs = []api.Sub{sub("s", "a", own.Cards...), sub("q", "a", own.Cards...)}
	for _, c := range []api.Circuit{models, subs, own, inside} {
		if err := netlist.Check(c); err != api.OK {
			t.Errorf("%v: error %d", c, err)
		}
	}
	models.Models = append(models.Models, api.Model{Name: "n", Kind: 'd', G: []api.Num{{}}})
	wrong(t, models, api.ErrMany)
	subs.Subs = append(subs.Subs, sub("q", "a"))
	wrong(t, subs, api.ErrMany)
	own.Cards = append(own.Cards, cards("c1 a 0 1")...)
	wrong(t, own, api.ErrMany)
	inside.Subs[1].Cards = own.Cards
	wrong(t, inside, api.ErrMany)
}

func TestTextsAsLongAsMayBe(t *testing.T) {
	for _, lines := range []string{"r1 a 0 1", ".step 1u / .method euler / r1 a 0 1 / .end"} {
		text := rows(lines) + "\n"
		full := text + strings.Repeat("*", api.MaxText-len(text))
		reads(t, full, plain("r1 a 0 1"))
		refuses(t, full+"*", 0, api.ErrLong)
		refuses(t, full+"\n", 0, api.ErrLong)
		refuses(t, strings.Replace(full, "r1", "!1", 1)+"\x00", 0, api.ErrLong)
	}
	end := "\nr1 a 0 1"
	reads(t, strings.Repeat("\n", api.MaxText-len(end))+end, plain("r1 a 0 1"))
	refuses(t, strings.Repeat("\n", api.MaxText-5)+".ends", api.MaxText-4, api.ErrOrder)
}

func TestSubcircuitsWithoutCards(t *testing.T) {
	c := plain()
	c.Subs = []api.Sub{sub("s", "a")}
	reads(t, ".subckt s a / .ends", c)
	prints(t, c, ".step 1u / .method euler / .subckt s a / .ends / .end")
	c.Cards = cards("x1 0 s")
	reads(t, ".subckt s a / .ends / x1 0 s", c)
	prints(t, c, ".step 1u / .method euler / .subckt s a / .ends / x1 0 s / .end")
}

// What a Ref names may stand behind the card, but for a subcircuit that is named in one.
func TestRefsToWhatStandsBehind(t *testing.T) {
	right(t, "d1 a 0 m / .model m d 1", 1, 0, 1)
	right(t, "s1 a 0 b 0 m / .model m s 1 2 3 / .end", 1, 0, 1)
	right(t, "f1 a 0 v1 2 / v1 a 0 5", 0, 0, 2)
	right(t, "h1 a 0 v1 2 / r1 a 0 1 / v1 a 0 5", 0, 0, 3)
	right(t, "x1 a b div / "+div, 0, 1, 1)
	right(t, ".subckt s a / d1 a 0 m / f1 a 0 v1 1 / h1 a 0 v1 1 / v1 a 0 1 / .ends / .model m d 1", 1, 1, 0)
	right(t, "x1 a q / .subckt s a / .ends / .subckt q a / x1 a s / .ends / .end", 0, 2, 1)
}

// Of f and h: a source of the same list.
func TestSourcesOfAnotherList(t *testing.T) {
	refuses(t, "v1 a 0 1 / .subckt s a / f1 a 0 v1 1 / .ends", 3, api.ErrRef)
	refuses(t, ".subckt s a / v1 a 0 1 / .ends / h1 a 0 v1 1", 4, api.ErrRef)
	refuses(t, ".subckt s a / v1 a 0 1 / .ends / .subckt q a / h1 a 0 v1 1 / .ends", 5, api.ErrRef)
	right(t, ".subckt s a / v1 a 0 1 / f1 a 0 v1 1 / .ends / h1 a 0 v1 1 / v1 a 0 1", 0, 1, 2)
}

// Of d and s: a model of the same kind.
func TestModelsOfAnotherKind(t *testing.T) {
	refuses(t, ".model m s 1 2 3 / d1 a 0 m", 2, api.ErrRef)
	refuses(t, "s1 a 0 b 0 m / .model m d 1 2 3", 1, api.ErrRef)
	refuses(t, ".model m d 1 / .subckt s a / s1 a 0 b 0 m / .ends", 3, api.ErrRef)
	right(t, ".model m d 1 / .model o s 1 2 3 / d1 a 0 m / s1 a 0 b 0 o", 2, 0, 2)
}

// Of x in a subcircuit: one ahead of it, not itself, none behind it.
func TestSubcircuitsInSubcircuits(t *testing.T) {
	three := func(ref string) string {
		return ".subckt one a / .ends / .subckt two a / x1 a " + ref + " / .ends / .subckt six a / .ends"
	}
	right(t, three("one"), 0, 3, 0)
	refuses(t, three("two"), 4, api.ErrRef)
	refuses(t, three("six"), 4, api.ErrRef)
	for _, ref := range []string{"one", "two", "six"} {
		right(t, three("one")+" / x1 a "+ref, 0, 3, 1)
		right(t, "x1 a "+ref+" / "+three("one"), 0, 3, 1)
	}
	refuses(t, ".subckt one a / x1 a one / .ends", 2, api.ErrRef)
	refuses(t, ".subckt one a / .ends / .subckt two a b / x1 a b one / .ends", 4, api.ErrPorts)
	for at, ref := range []string{"one", "two", "six"} {
		for from := range 3 {
			c := plain()
			c.Subs = []api.Sub{sub("one", "a"), sub("two", "a"), sub("six", "a")}
			c.Subs[from].Cards = cards("x1 a " + ref)
			want := api.OK
			if at >= from {
				want = api.ErrRef
			}
			if err := netlist.Check(c); err != want {
				t.Errorf("%v: error %d", c, err)
			}
		}
	}
}

// A filler lays cards into subcircuits, each with a name of its own, while rest bytes of a text are left.
type filler struct {
	c          api.Circuit
	next, rest int
}

// add lays a card of the line, which is in the one form that is printed; # stands for a number of three digits.
func (f *filler) add(form string) {
	line := count(form, 100+f.next, 100+f.next)
	s := &f.c.Subs[f.next%api.MaxSubs]
	s.Cards = append(s.Cards, cards(line)...)
	f.next++
	f.rest -= len(line) + 1
}

// ofLength is a right circuit whose text has so many bytes.
func ofLength(length int) api.Circuit {
	f := filler{c: tell(rows(count(".subckt s# p / .ends", 1, api.MaxSubs))).c}
	f.rest = length - len(meantText(f.c))
	for f.rest > 400 {
		f.add("v# a b table" + strings.Repeat(" 123456789", 16))
	}
	// A resistor's line has 11 bytes at least, and 41 at most.
	for f.rest > 0 {
		size := min(f.rest, 41)
		if f.rest > 41 && f.rest < 52 {
			size = 30
		}
		a := min(size-10, 16)
		f.add("r# " + strings.Repeat("a", a) + " " + strings.Repeat("b", size-9-a) + " 1")
	}
	return f.c
}

func TestPrintsAsLongAsMayBe(t *testing.T) {
	for length := api.MaxText - 30; length <= api.MaxText; length++ {
		c := ofLength(length)
		text, err := netlist.Print(c)
		if err != api.OK || len(text) != length || text != meantText(c) {
			t.Fatalf("%d bytes with error %d, not %d", len(text), err, length)
		}
		if got := tell(text); !got.is(told{c: c}) {
			t.Fatalf("a text of %d bytes: error %d at %d", length, got.err, got.at)
		}
	}
	for length := api.MaxText + 1; length <= api.MaxText+30; length++ {
		c := ofLength(length)
		if len(meantText(c)) != length || netlist.Check(c) != api.OK {
			t.Fatal(length, len(meantText(c)), netlist.Check(c))
		}
		if text, err := netlist.Print(c); text != "" || err != api.ErrLong {
			t.Fatalf("%d bytes with error %d, where it has %d", len(text), err, length)
		}
	}
}

// What is read of a text may have too long a print.
func TestPrintsLongerThanWhatWasRead(t *testing.T) {
	list := count("v# a b table"+strings.Repeat(" 1e8", 16), 1, api.MaxCards)
	text := list
	for i := range api.MaxSubs {
		text = behind(text, count(".subckt s# p", i, i), list, ".ends")
	}
	c := right(t, text, 0, api.MaxSubs, api.MaxCards)
	if err := netlist.Check(c); err != api.OK {
		t.Errorf("error %d", err)
	}
	if text, err := netlist.Print(c); text != "" || err != api.ErrLong {
		t.Errorf("%d bytes with error %d", len(text), err)
	}
	c.Subs = c.Subs[1:]
	if text, err := netlist.Print(c); text != meantText(c) || err != api.OK {
		t.Errorf("%d bytes with error %d", len(text), err)
	}
}
