package netlist_test

import (
	"slices"
	"strings"
	"testing"

	"shunt/api"
	"shunt/netlist"
)

// The errors of layer 6 come ahead of all others, wherever they stand.
func TestErrorsOfLex(t *testing.T) {
	refuses(t, "+", 1, api.ErrJoin)
	refuses(t, "* t / + a", 2, api.ErrJoin)
	refuses(t, "r1 a 0 1 / r2 a 0 1\x80", 2, api.ErrByte)
	refuses(t, "r1 a 0 1"+strings.Repeat(" y", 61), 1, api.ErrMany)
	refuses(t, "r1 a 0 1 / +"+strings.Repeat(" y", 61), 2, api.ErrMany)
	refuses(t, strings.Repeat("r1 a 0 1\n", 8000), 0, api.ErrLong)
	for _, bad := range []string{".foo", ".ends", ".step 0", "r1 a 0 0", ".end / .end", "d1 a 0 m", ".subckt a p"} {
		lines := strings.Count(bad, " / ") + 1
		refuses(t, behind(bad, "r9 \x00"), lines+1, api.ErrByte)
		refuses(t, behind(bad, "", "", "* \x7f"), lines+3, api.ErrByte)
		refuses(t, behind(bad, "y"+strings.Repeat(" y", 64)), lines+1, api.ErrMany)
		refuses(t, behind("+", bad), 1, api.ErrJoin)
		refuses(t, rows(bad)+strings.Repeat("\n", 65536), 0, api.ErrLong)
	}
}

// Behind .end nothing stands that says something.
func TestLinesBehindTheEnd(t *testing.T) {
	reads(t, "r1 a 0 1 / .end / * r1 a 0 1 /  / ; .end / + / ", plain("r1 a 0 1"))
	for _, s := range []string{"r1 a 0 1", "r1", "y", ".end", ".ends", ".step 1u", ".step", ".method trap", ".model m d 1", ".subckt s a", ".foo", ".", "x1 a nosub", "r1 A 0 0"} {
		refuses(t, behind(".end", s), 2, api.ErrOrder)
		refuses(t, behind("d1 a 0 m", "", ".end", "", s, ".foo"), 5, api.ErrOrder)
	}
}

// In a subcircuit stand cards alone, and outside of one no .ends does, whatever else these lines are refused for.
func TestLinesInTheWrongPlace(t *testing.T) {
	for _, s := range []string{".step", ".method", ".model", ".subckt", ".end"} {
		for _, words := range []string{"", " 1u", " euler", " trap", " x y z", " m d 1", " s a", " s a a", " s 0", " 0", " y" + strings.Repeat(" y", 20)} {
			refuses(t, behind(".subckt s a", s+words, ".ends"), 2, api.ErrOrder)
			refuses(t, behind(".step 1", ".method trap", ".model m d 1", ".subckt s a", "r1 a 0 1", s+words), 6, api.ErrOrder)
		}
	}
	for _, s := range []string{".ends", ".ends s", ".ends x y z", ".ends .ends"} {
		refuses(t, s, 1, api.ErrOrder)
		refuses(t, behind("r1 a 0 1", s), 2, api.ErrOrder)
		refuses(t, behind(".subckt s a", ".ends", s), 3, api.ErrOrder)
	}
}

func TestFirstWordsWithAPoint(t *testing.T) {
	for _, s := range []string{".", "..", ".foo", ".steps", ".ste", "..step", ".step.", ".methods", ".models", ".subckts", ".sub", ".ende", ".en", ".endss", ".r1", ".r1 a 0 1", ".tran 1 2", ".0", ".step;", ".model;"} {
		refuses(t, s, 1, api.ErrCard)
		refuses(t, behind("r1 a 0 1", s), 2, api.ErrCard)
		if !strings.Contains(s, ";") {
			refuses(t, behind(".subckt s a", s), 2, api.ErrCard)
			refuses(t, s+" 1u", 1, api.ErrCard)
		}
	}
}

func TestCountsOfWords(t *testing.T) {
	may := map[string][]int{
		".step": {2}, ".method": {2}, ".subckt": {3, 4, 5, 6, 7, 8, 9, 10}, ".ends": {1}, ".end": {1}, ".model": {4, 6, 8, 10}, "r1": {4}, "x1": {3, 4, 5, 6, 7, 8, 9, 10}, ".foo": {},
	}
	for first, counts := range may {
		for _, fill := range []string{"1", "d", "!", "euler"} {
			for words := 1; words <= api.MaxWords; words++ {
				text, at := first+strings.Repeat(" "+fill, words-1), 1
				if first == ".ends" {
					text, at = ".subckt s a\n"+text, 2
				}
				got := tell(text)
				counted := slices.Contains(counts, words) && !(first == ".model" && fill != "d") && !(first == ".method" && fill != "euler")
				if (got.err != api.ErrCard) != counted || !counted && got.at != at {
					t.Errorf("%q: error %d at %d", text, got.err, got.at)
				}
			}
		}
	}
}

func TestWrongSteps(t *testing.T) {
	for _, s := range []string{"x", "1x", ".5", "1.", "+1", "1e", "1e123", "-", "--1", "1,5", "0x1", "1t0", "euler", "1kk", strings.Repeat("1", 33)} {
		refuses(t, ".step "+s, 1, api.ErrText)
		refuses(t, ".step 1 / .step "+s, 2, api.ErrText)
	}
	for _, s := range []string{"1e10", "1234567891", "1e-19", "1t", "10g", "-1e-19", "-1234567891", "0.1e-18"} {
		refuses(t, ".step "+s, 1, api.ErrNum)
		refuses(t, ".step 1 / .step "+s, 2, api.ErrNum)
	}
	for _, s := range []string{"0", "-0", "00.000k", "0e-18", "-1", "-1u", "-1e-18", "-999999999g"} {
		refuses(t, ".step "+s, 1, api.ErrArg)
		refuses(t, ".step 1 / .step "+s, 2, api.ErrArg)
	}
	for _, s := range []string{"1u", "1", "1e-18", "7"} {
		refuses(t, ".step 1u / r1 a 0 1 / .step "+s, 3, api.ErrTwice)
		refuses(t, ".step 3 / .step "+s+" / .step x", 2, api.ErrTwice)
	}
}

func TestWrongMethods(t *testing.T) {
	for _, s := range []string{"eule", "eulers", "trapez", "gear", "1", "2", "0", ".euler", "!", "trap,"} {
		refuses(t, ".method "+s, 1, api.ErrCard)
		refuses(t, ".method euler / .method "+s, 2, api.ErrCard)
		refuses(t, ".method trap / .method "+s, 2, api.ErrCard)
	}
	for _, a := range []string{"euler", "trap"} {
		for _, b := range []string{"euler", "trap"} {
			refuses(t, ".method "+a+" / .step 1 / .method "+b, 3, api.ErrTwice)
		}
	}
}

// The errors of layer 7 of a model's line, then two of one name, then one too many.
func TestWrongModels(t *testing.T) {
	own := map[string]api.Errno{
		".model": api.ErrCard, ".model m": api.ErrCard, ".model m d": api.ErrCard, ".model m q 1": api.ErrCard, ".model m d 1 2": api.ErrCard, ".model m s 1": api.ErrCard, ".model m! d": api.ErrCard,
		".model m! d 1": api.ErrName, ".model m! d x": api.ErrName, ".model m d x": api.ErrText, ".model m d x 1e10 1": api.ErrText,
		".model m d 1e10": api.ErrNum, ".model m d 1e10 x 1": api.ErrNum, ".model m d 1 2 3 1 4": api.ErrModel, ".model m d 1 2 3 2 4": api.ErrModel,
	}
	full := count(".model m# d 1", 2, 17)
	for s, err := range own {
		refuses(t, s, 1, err)
		refuses(t, behind(".model m d 1", s), 2, err)
		refuses(t, behind("r1 a 0 1", div, s, ".foo"), 6, err)
		refuses(t, behind(full, s), 17, err)
	}
	refuses(t, ".model m d 1 / .model m d 1", 2, api.ErrTwice)
	refuses(t, ".model m d 1 / .model n d 1 / .model m s 1 2 3", 3, api.ErrTwice)
	refuses(t, behind(full, ".model m17 d 1"), 17, api.ErrTwice)
	refuses(t, behind(full, ".model m2 s 1 2 3"), 17, api.ErrTwice)
	refuses(t, behind(full, ".model m1 s 1 2 3"), 17, api.ErrMany)
}

func TestWrongSubcircuits(t *testing.T) {
	full := count(".subckt s# a / .ends", 2, 9)
	for _, s := range []string{
		"! a", "s! a", "s.1 a", ".s a", "s23456789012345678 a", "s !", "s a !", "s a.b", "s 0", "s a 0", "s a b c 0 d", "s 0 0", "s a a !", "s a a 0", "s! a a", "s -1", "s 1.5", "s n23456789012345678",
		"s2 0", "s2 a a 0", "s2 a!",
	} {
		refuses(t, ".subckt "+s+" / .ends", 1, api.ErrName)
		refuses(t, behind(full, ".subckt "+s), 17, api.ErrName)
	}
	for _, s := range []string{"s a a", "s a b a", "s a b c d e f g a", "s a b c d e f h h", "s 00 00"} {
		refuses(t, ".subckt "+s+" / .ends", 1, api.ErrTwice)
		refuses(t, behind(full, ".subckt "+s), 17, api.ErrTwice)
	}
	refuses(t, ".subckt s a / .ends / .subckt s a / .ends", 3, api.ErrTwice)
	refuses(t, ".subckt s a / .ends / .subckt q a / .ends / r1 a 0 1 / .subckt s b c", 6, api.ErrTwice)
	for _, s := range []string{"s2 a", "s9 a b", "s5 q"} {
		refuses(t, behind(full, ".subckt "+s), 17, api.ErrTwice)
	}
	refuses(t, behind(full, ".subckt s1 a"), 17, api.ErrMany)
	refuses(t, behind(full, ".subckt s1 00"), 17, api.ErrMany)
}

// The errors of layer 7 of a card, then two of one name in one list, then one too many.
func TestWrongCards(t *testing.T) {
	own := map[string]api.Errno{
		"q1 a 0 1": api.ErrCard, "r1 a 0": api.ErrCard, "r.1 a 0 1": api.ErrCard, "!": api.ErrCard, "r1 a! 0": api.ErrCard, "v1 a 0 pulse 1": api.ErrCard, "x1 a": api.ErrCard, "r12345678901234567 a 0 1": api.ErrCard,
		"r1 a! 0 x": api.ErrName, "f1 a 0 r1 1": api.ErrName, "r1 a 0 x": api.ErrText, "v1 a 0 pwl 00 1": api.ErrText, "r1 a 0 1e10": api.ErrNum, "v1 a 0 pwl 0 1e10 x 1": api.ErrNum,
		"r1 a 0 0": api.ErrZero, "c1 a 0 -0": api.ErrZero, "v1 a 0 pwl 1 1 1 1": api.ErrWave, "i1 a 0 pulse 0 5 0 1 2 1 3": api.ErrWave,
	}
	full := count("r# a 0 1", 2, 65)
	for s, err := range own {
		refuses(t, s, 1, err)
		refuses(t, behind("r1 a 0 1", "v1 a 0 1", "c1 a 0 1", s, ".foo"), 4, err)
		refuses(t, behind(".subckt s a", s, ".foo"), 2, err)
		refuses(t, behind(full, s), 65, err)
		refuses(t, behind(".subckt s a", full, s), 66, err)
	}
	for _, s := range []string{"r2 a 0 1", "r65 b c 2", "r30 x y 1k"} {
		refuses(t, behind(full, s), 65, api.ErrTwice)
		refuses(t, behind(".subckt s a", full, s), 66, api.ErrTwice)
		refuses(t, behind(full, div, s), 69, api.ErrTwice)
	}
	for _, s := range []string{"r1 a 0 1", "d1 a 0 nomodel", "x1 a nosub"} {
		refuses(t, behind(full, s), 65, api.ErrMany)
		refuses(t, behind(".subckt s a", full, s), 66, api.ErrMany)
		refuses(t, behind(full, div, s), 69, api.ErrMany)
	}
}

// Of two lines that are refused the first is told, whatever the errors are.
func TestTheFirstLineIsTold(t *testing.T) {
	bad := map[string]api.Errno{
		".ends": api.ErrOrder, ".foo": api.ErrCard, ".step x": api.ErrText, ".step 1e10": api.ErrNum, ".step 0": api.ErrArg, ".step 2": api.ErrTwice, ".method trap": api.ErrTwice, ".model m! d 1": api.ErrName,
		".model m d 1 2 3 1 4": api.ErrModel, ".model m d 1": api.ErrTwice, ".subckt s 0": api.ErrName, ".subckt s a a": api.ErrTwice, "r1 a 0 0": api.ErrZero, "v1 a 0 pwl 1 1 1 1": api.ErrWave, "r1 a 0 1": api.ErrTwice,
	}
	ahead := ".step 1 / .method euler / .model m d 1 / r1 a 0 1 / r2 a 0 1"
	for a, err := range bad {
		for b := range bad {
			refuses(t, behind(ahead, a, b), 6, err)
			refuses(t, behind(ahead, "", a, "r3 a 0 1", b), 7, err)
		}
	}
}

// What is refused behind the last line is told only where no line was refused.
func TestErrorsBehindTheLastLine(t *testing.T) {
	refs := []string{"d1 a 0 nomodel", "s1 a 0 b 0 nomodel", "f1 a 0 v9 1", "h1 a 0 v9 1", "x1 a nosub"}
	for _, s := range refs {
		refuses(t, s, 1, api.ErrRef)
		refuses(t, behind("r9 a 0 1", "", s, ".end"), 3, api.ErrRef)
		refuses(t, behind(".subckt q a", s, ".ends"), 2, api.ErrRef)
		refuses(t, behind(s, "r9 a 0 0"), 2, api.ErrZero)
		refuses(t, behind(s, ".foo"), 2, api.ErrCard)
		refuses(t, behind(s, ".subckt q a"), 2, api.ErrOrder)
		refuses(t, behind(".subckt q a", s), 1, api.ErrOrder)
		refuses(t, behind(".subckt q a", s, ".end"), 3, api.ErrOrder)
	}
	refuses(t, behind(div, "x1 a div", ".foo"), 6, api.ErrCard)
	refuses(t, behind(div, "x1 a div", "", "* t", ".subckt q a", "r1 a 0 1"), 8, api.ErrOrder)
	refuses(t, ".subckt q a / .ends / .subckt p a / r1 a 0 1", 3, api.ErrOrder)
}

// ErrRef and ErrPorts are told card by card, in the text's order: neither is ahead, nor are the subcircuits' cards.
func TestRefsInTheTextsOrder(t *testing.T) {
	refuses(t, behind(div, "x1 a div", "x2 a nosub"), 5, api.ErrPorts)
	refuses(t, behind(div, "x1 a nosub", "x2 a div"), 5, api.ErrRef)
	refuses(t, behind(div, "x1 a b div", "x2 a b c div", "d1 a 0 m"), 6, api.ErrPorts)
	refuses(t, behind("x1 a div", div, "d1 a 0 m"), 1, api.ErrPorts)
	refuses(t, behind("d1 a 0 m", div, "x1 a div"), 1, api.ErrRef)
	refuses(t, behind("r1 a 0 1", "d1 a 0 m", ".subckt s a", "f1 a 0 v1 1", ".ends"), 2, api.ErrRef)
	refuses(t, behind(div, ".subckt s a", "x1 a div", ".ends", "d1 a 0 m"), 6, api.ErrPorts)
	refuses(t, behind(div, ".subckt s a", "d1 a 0 m", ".ends", "x1 a div"), 6, api.ErrRef)
	refuses(t, behind(div, "x1 a div", ".subckt s a", "d1 a 0 m", ".ends"), 5, api.ErrPorts)
	refuses(t, behind("r1 a 0 1", ".subckt s a", "f1 a 0 v1 1", ".ends", "d1 a 0 m"), 3, api.ErrRef)
	refuses(t, behind(".subckt s a", "r1 a 0 1", ".ends", ".subckt q a", "x1 a b s", "d1 a 0 m", ".ends", "x1 a s"), 5, api.ErrPorts)
	refuses(t, behind(".subckt s a", ".ends", "x1 a s", ".subckt q a b", ".ends", "x2 a b q", "x3 a b s", "x4 a q"), 7, api.ErrPorts)
}

// base is a right circuit with something of every kind.
func base() api.Circuit {
	return tell(rows(behind(
		".step 2u", ".method trap", ".model dio d 1u 0.7 100m", ".model sw s 1n 1 1",
		".subckt one a b", "r1 a b 1", "v1 a b 1", "f1 a b v1 1", ".ends", ".subckt two a b c", "x1 a b one", "d1 a b dio", ".ends", ".subckt six p", "r1 p 0 1", ".ends",
		"v1 a 0 1", "h1 b 0 v1 1", "d1 a b dio", "s1 a b c 0 sw", "x1 a b c two", "x2 a b one", "r1 a b 1",
	))).c
}

// A spoiling makes a circuit one that is refused; id is a text that no other spoiling of the circuit has.
type spoiling struct {
	err api.Errno
	do  func(c *api.Circuit, id string)
}

func setting(step api.Num, method int) spoiling {
	return spoiling{api.ErrArg, func(c *api.Circuit, id string) { c.Step, c.Method = step, method }}
}

func withModel(err api.Errno, m api.Model) spoiling {
	return spoiling{err, func(c *api.Circuit, id string) {
		named := m
		named.Name = strings.ReplaceAll(m.Name, "#", id)
		c.Models = append([]api.Model{named}, c.Models...)
	}}
}

// withSub puts in a subcircuit behind the others.
func withSub(err api.Errno, s api.Sub) spoiling {
	return spoiling{err, func(c *api.Circuit, id string) {
		named := s
		named.Name = strings.ReplaceAll(s.Name, "#", id)
		c.Subs = append(c.Subs, named)
	}}
}

// withCard puts a card into the netlist's list (-1), or into a subcircuit's.
func withCard(err api.Errno, in int, x api.Card) spoiling {
	return spoiling{err, func(c *api.Circuit, id string) {
		named := x
		named.Name = strings.ReplaceAll(x.Name, "#", id)
		if in < 0 {
			c.Cards = append(c.Cards, named)
		} else {
			c.Subs[in].Cards = append([]api.Card{named}, c.Subs[in].Cards...)
		}
	}}
}

func argSpoilings() []spoiling {
	var l []spoiling
	for _, step := range []api.Num{{}, n(-1, 0), n(-1, -6), n(10, 0), n(1000000001, 0), n(1, 10), n(1, -19), n(0, 1), n(-1<<63, 0), n(1<<62+1, 0)} {
		l = append(l, setting(step, api.Euler))
	}
	for _, method := range []int{0, 3, -1, 257, 258, 1 << 40} {
		l = append(l, setting(n(1, 0), method))
	}
	return append(l, setting(n(0, 0), 0))
}

func modelSpoilings() []spoiling {
	var l []spoiling
	one := []api.Num{n(1, 0)}
	for _, m := range []api.Model{
		{}, {Name: "", Kind: 'd', G: one}, {Name: "A#", Kind: 'd', G: one}, {Name: "a.#", Kind: 'd', G: one}, {Name: strings.Repeat("a", 17), Kind: 'd', G: one},
		{Name: "m#", Kind: 'D', G: one}, {Name: "m#", Kind: 0, G: one}, {Name: "m#", Kind: 'd'}, {Name: "m#", Kind: 'd', G: one, V: one}, {Name: "m#", Kind: 's', G: one},
		{Name: "m#", Kind: 'd', G: []api.Num{n(10, 0)}}, {Name: "m#", Kind: 'd', G: []api.Num{n(1, 0), n(1, 0), n(1, 0)}, V: []api.Num{n(1, 0), n(1, 0)}},
	} {
		l = append(l, withModel(api.ErrModel, m))
	}
	return l
}

func cardSpoilings() []spoiling {
	var l []spoiling
	ab := []string{"a", "b"}
	for _, x := range []api.Card{
		{}, {Name: "q#", Nodes: ab, Value: n(1, 0)}, {Name: "r#", Nodes: ab}, {Name: "r#", Nodes: ab[:1], Value: n(1, 0)}, {Name: "r#", Nodes: []string{"a", "B"}, Value: n(1, 0)},
		{Name: "r#", Nodes: ab, Value: n(10, 0)}, {Name: "r#", Nodes: ab, Ref: "v1", Value: n(1, 0)}, {Name: "v#", Nodes: ab}, {Name: "f#", Nodes: ab, Ref: "r1"},
		{Name: "d#", Nodes: ab}, {Name: "d#", Nodes: ab, Ref: "dio", Value: n(1, 0)}, {Name: "x#", Ref: "one"}, {Name: "x#", Nodes: ab}, {Name: ".end", Nodes: ab},
		{Name: "R#", Nodes: ab, Value: n(1, 0)}, {Name: "r# a", Nodes: ab[:1], Value: n(1, 0)}, {Name: "x#", Nodes: strings.Fields("a b c d e f g h i"), Ref: "one"},
	} {
		l = append(l, withCard(api.ErrCard, -1, x), withCard(api.ErrCard, 0, x), withCard(api.ErrCard, 2, x))
	}
	for _, s := range []api.Sub{
		{}, sub("", "a"), sub("S#", "a"), sub("s-#", "a"), sub(strings.Repeat("s", 17), "a"), sub("s#", ""), sub("s#", "a b c d e f g h i"), sub("s#", "0"), sub("s#", "a 0"), sub("s#", "A"), sub("s#", "a b- c"),
		{Name: "s#", Ports: []string{""}}, {Name: "s#", Ports: []string{"a", "b c"}}, sub("s#", "a "+strings.Repeat("p", 17)),
	} {
		l = append(l, withSub(api.ErrCard, s))
	}
	return l
}

func manySpoilings() []spoiling {
	names := func(id string, k int) string { return id + strings.Repeat("_", k/26) + string(rune('a'+k%26)) }
	return []spoiling{
		{api.ErrMany, func(c *api.Circuit, id string) {
			for k := len(c.Models); k <= api.MaxModels; k++ {
				c.Models = append(c.Models, models("m"+names(id, k)+" d 1")...)
			}
		}},
		{api.ErrMany, func(c *api.Circuit, id string) {
			for k := len(c.Subs); k <= api.MaxSubs; k++ {
				c.Subs = append(c.Subs, sub("s"+names(id, k), "a"))
			}
		}},
		{api.ErrMany, func(c *api.Circuit, id string) {
			for k := len(c.Cards); k <= api.MaxCards; k++ {
				c.Cards = append(c.Cards, cards("r"+names(id, k)+" a b 1")...)
			}
		}},
		{api.ErrMany, func(c *api.Circuit, id string) {
			for k := len(c.Subs[1].Cards); k <= api.MaxCards; k++ {
				c.Subs[1].Cards = append(c.Subs[1].Cards, cards("c"+names(id, k)+" a b 1")...)
			}
		}},
	}
}

func twiceSpoilings() []spoiling {
	return []spoiling{
		withModel(api.ErrTwice, models("sw d 1")[0]), withModel(api.ErrTwice, models("dio d 1")[0]),
		withSub(api.ErrTwice, sub("one", "a b")), withSub(api.ErrTwice, sub("six", "q")), withSub(api.ErrTwice, sub("s#", "a a")), withSub(api.ErrTwice, sub("s#", "a b c d e f g b")),
		withCard(api.ErrTwice, -1, cards("r1 c d 5")[0]), withCard(api.ErrTwice, -1, cards("v1 a 0 1")[0]),
		withCard(api.ErrTwice, 0, cards("v1 c d 5")[0]), withCard(api.ErrTwice, 2, cards("r1 c d 5")[0]),
		{api.ErrTwice, func(c *api.Circuit, id string) { c.Subs[1].Ports[2] = "a" }},
	}
}

func refSpoilings() []spoiling {
	var l []spoiling
	for _, s := range []string{"d_ a b none", "d_ a b sw", "d_ a b one", "s_ a b c d dio", "s_ a b c d none", "f_ a b v7 1", "h_ a b v 1", "x_ a none", "x_ a b dio", "x_ a b r1"} {
		x := cards(s)[0]
		x.Name += "#"
		l = append(l, withCard(api.ErrRef, -1, x), withCard(api.ErrRef, 0, x), withCard(api.ErrRef, 1, x), withCard(api.ErrRef, 2, x))
	}
	for in, refs := range [][]string{{"a b one", "a b c two", "p six"}, {"a b c two", "p six"}, {"p six"}} {
		for _, ref := range refs {
			x := cards("x_ " + ref)[0]
			x.Name += "#"
			l = append(l, withCard(api.ErrRef, in, x))
		}
	}
	x := cards("f_ a b v1 1")[0]
	x.Name += "#"
	return append(l, withCard(api.ErrRef, 1, x), withCard(api.ErrRef, 2, x))
}

func portsSpoilings() []spoiling {
	var l []spoiling
	for ref, in := range map[string]int{"a one": 2, "a b c one": 1, "a b two": 2, "a b c d e f g h two": 2, "a b six": -1} {
		x := cards("x_ " + ref)[0]
		x.Name += "#"
		l = append(l, withCard(api.ErrPorts, -1, x), withCard(api.ErrPorts, in, x))
	}
	return l
}

// ErrPorts comes of the longer list of ports, too.
func morePorts() spoiling {
	return spoiling{api.ErrPorts, func(c *api.Circuit, id string) { c.Subs[0].Ports = append(c.Subs[0].Ports, "p"+id) }}
}

// spoilings are those of each error, in the order of the errors.
func spoilings() [][]spoiling {
	return [][]spoiling{argSpoilings(), modelSpoilings(), cardSpoilings(), manySpoilings(), twiceSpoilings(), refSpoilings(), append(portsSpoilings(), morePorts())}
}

func TestTheBaseIsRight(t *testing.T) {
	c := base()
	if err := netlist.Check(c); err != api.OK || len(c.Models) != 2 || len(c.Subs) != 3 || len(c.Cards) != 7 {
		t.Fatalf("%v: error %d", c, err)
	}
	if text, err := netlist.Print(c); text != meantText(c) || err != api.OK {
		t.Errorf("%q with error %d", text, err)
	}
}

// Each of Check's errors alone.
func TestCheckTellsEachError(t *testing.T) {
	for _, l := range spoilings() {
		for _, s := range l {
			c := base()
			s.do(&c, "k")
			wrong(t, c, s.err)
		}
	}
}

// Of two of Check's errors the one that is named first is told, whichever way round the circuit was spoiled.
func TestCheckTellsTheFirstError(t *testing.T) {
	all := spoilings()
	for i, first := range all {
		for _, second := range all[i:] {
			for _, a := range first {
				for _, b := range second {
					c := base()
					a.do(&c, "k")
					b.do(&c, "l")
					if err := netlist.Check(c); err != a.err {
						t.Fatalf("Check(%v): error %d, not %d ahead of %d", c, err, a.err, b.err)
					}
					c = base()
					b.do(&c, "k")
					a.do(&c, "l")
					if text, err := netlist.Print(c); text != "" || err != a.err {
						t.Fatalf("Print(%v): error %d, not %d ahead of %d", c, err, a.err, b.err)
					}
				}
			}
		}
	}
}

// tooLong is the base with so many cards in each list, and more lists, that its text is too long.
func tooLong() api.Circuit {
	c := base()
	c.Subs = append(c.Subs, sub("t1", "a"), sub("t2", "a"), sub("t3", "a"), sub("t4", "a"))
	many := tell(rows(count("v1# a b table"+strings.Repeat(" 123456789", 16), 10, 61))).c.Cards
	for i := range c.Subs {
		c.Subs[i].Cards = append(c.Subs[i].Cards, many...)
	}
	c.Cards = append(c.Cards, many...)
	return c
}

// Check's errors come ahead of the text's length.
func TestWrongAndTooLong(t *testing.T) {
	c := tooLong()
	text, err := netlist.Print(c)
	if text != "" || err != api.ErrLong || netlist.Check(c) != api.OK {
		t.Fatalf("%d bytes with error %d, error %d", len(text), err, netlist.Check(c))
	}
	for _, l := range spoilings() {
		for _, s := range l {
			c := tooLong()
			s.do(&c, "k")
			wrong(t, c, s.err)
		}
	}
}

// Circuits of nothing, and of very much.
func TestCircuitsOfAllSizes(t *testing.T) {
	wrong(t, api.Circuit{}, api.ErrArg)
	wrong(t, api.Circuit{Step: n(1, 0)}, api.ErrArg)
	wrong(t, api.Circuit{Method: api.Trap}, api.ErrArg)
	prints(t, api.Circuit{Step: n(1, 0), Method: api.Trap}, ".step 1 / .method trap / .end")
	prints(t, api.Circuit{Step: n(1, 0), Method: api.Trap, Models: []api.Model{}, Subs: []api.Sub{}, Cards: []api.Card{}}, ".step 1 / .method trap / .end")
	for _, c := range []api.Circuit{
		{Step: n(1, 0), Method: 1, Models: slices.Repeat(models("m d 1"), 100000)},
		{Step: n(1, 0), Method: 1, Subs: slices.Repeat([]api.Sub{sub("s", "a")}, 100000)},
		{Step: n(1, 0), Method: 1, Cards: slices.Repeat(cards("r1 a 0 1"), 100000)},
		{Step: n(1, 0), Method: 1, Subs: []api.Sub{sub("s", "a", slices.Repeat(cards("r1 a 0 1"), 100000)...)}},
	} {
		if err := netlist.Check(c); err != api.ErrMany {
			t.Errorf("error %d", err)
		}
	}
	c := plain()
	c.Subs = []api.Sub{{Name: "s", Ports: slices.Repeat([]string{"a"}, 100000)}}
	if err := netlist.Check(c); err != api.ErrCard {
		t.Errorf("error %d", err)
	}
}
