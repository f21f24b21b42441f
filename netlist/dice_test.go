package netlist_test

import (
	"slices"
	"strconv"
	"strings"

	"shunt/api"
)

// dice is a row of numbers that is the same at every run.
type dice uint64

func (d *dice) next() uint64 {
	*d ^= *d << 13
	*d ^= *d >> 7
	*d ^= *d << 17
	return uint64(*d)
}

func (d *dice) below(n int) int { return int(d.next() >> 33 % uint64(n)) }

func (d *dice) of(l ...string) string { return l[d.below(len(l))] }

// one is one in so many.
func (d *dice) one(n int) bool { return d.below(n) == 0 }

// some is a number up to most, mostly a small one.
func (d *dice) some(most int) int {
	if d.one(15) {
		return most - d.below(2)
	}
	return d.below(min(most, 5))
}

func (d *dice) number() api.Num {
	mant := int64(1 + d.below(998))
	if d.one(3) {
		mant = int64(1 + d.below(999999998))
	}
	if mant%10 == 0 {
		mant++
	}
	return n(mant, d.below(28)-18)
}

// signed is a number that may be 0 or below.
func (d *dice) signed() api.Num {
	x := d.number()
	switch d.below(6) {
	case 0:
		return api.Num{}
	case 1, 2:
		x.Mant = -x.Mant
	}
	return x
}

func (d *dice) numbers(count int) []api.Num {
	var l []api.Num
	for range count {
		l = append(l, d.signed())
	}
	return l
}

// names are so many names, no two the same, none of them 0.
func (d *dice) names(count int) []string {
	var l []string
	for len(l) < count {
		s := d.of("a", "b", "in", "out", "n", "euler", "v1", "q_", "nnnnnnnnnnnnnn") + strconv.Itoa(d.below(30))
		if !slices.Contains(l, s) {
			l = append(l, s)
		}
	}
	return l
}

// nodes are so many nodes, of which the ground may be one.
func (d *dice) nodes(count int) []string {
	var l []string
	for range count {
		l = append(l, d.of("0", "0", "a", "b", "c", "in", "out", d.names(1)[0]))
	}
	return l
}

func (d *dice) model(name string) api.Model {
	if d.one(2) {
		return api.Model{Name: name, Kind: 's', G: d.numbers(2), V: d.numbers(1)}
	}
	v := []api.Num{n(-3, 2), n(1, -5), n(7, 1)}[:d.below(4)]
	return api.Model{Name: name, Kind: 'd', G: d.numbers(len(v) + 1), V: slices.Clone(v)}
}

func (d *dice) wave() api.Wave {
	switch d.below(4) {
	case 0:
		return api.Wave{Kind: api.WavePulse, Vals: d.numbers(2), Steps: []int{d.below(9), d.below(9), d.below(9), d.below(9), 30 + d.below(9)}}
	case 1:
		count := 1 + d.some(api.MaxPoints-1)
		w := api.Wave{Kind: api.WavePwl, Vals: d.numbers(count)}
		for i := range count {
			w.Steps = append(w.Steps, 100*i+d.below(100))
		}
		return w
	case 2:
		return api.Wave{Kind: api.WaveTable, Vals: d.numbers(1 + d.some(api.MaxPoints-1))}
	}
	return api.Wave{Kind: api.WaveDC, Vals: d.numbers(1)}
}

// card is a right card of any kind, which may name one of the models, the subcircuits, and the sources; where there is
// none to name it is a resistor.
func (d *dice) card(models []api.Model, subs []api.Sub, sources []string) api.Card {
	switch kind := d.of("r", "c", "l", "i", "e", "g", "t", "f", "h", "d", "s", "d", "s", "x", "x", "x"); kind {
	case "i":
		return api.Card{Name: kind, Nodes: d.nodes(2), Wave: d.wave()}
	case "e", "g", "t":
		return api.Card{Name: kind, Nodes: d.nodes(4), Value: d.signed()}
	case "f", "h":
		if len(sources) > 0 {
			return api.Card{Name: kind, Nodes: d.nodes(2), Ref: d.of(sources...), Value: d.signed()}
		}
	case "d", "s":
		fit := slices.DeleteFunc(slices.Clone(models), func(m api.Model) bool { return m.Kind != kind[0] })
		if len(fit) > 0 {
			return api.Card{Name: kind, Nodes: d.nodes(map[string]int{"d": 2, "s": 4}[kind]), Ref: fit[d.below(len(fit))].Name}
		}
	case "x":
		if len(subs) > 0 {
			s := subs[d.below(len(subs))]
			return api.Card{Name: kind, Nodes: d.nodes(len(s.Ports)), Ref: s.Name}
		}
	default:
		return api.Card{Name: kind, Nodes: d.nodes(2), Value: d.number()}
	}
	return api.Card{Name: "r", Nodes: d.nodes(2), Value: d.number()}
}

// cards are a right list of cards.
func (d *dice) cards(models []api.Model, subs []api.Sub) []api.Card {
	var sources []string
	var l []api.Card
	count := d.some(api.MaxCards)
	for i := range min(d.below(3), count) {
		sources = append(sources, "v"+strconv.Itoa(i)+d.of("", "_x"))
		l = append(l, api.Card{Name: sources[i], Nodes: d.nodes(2), Wave: d.wave()})
	}
	for i := len(l); i < count; i++ {
		c := d.card(models, subs, sources)
		c.Name += d.of("", "a", "_") + strconv.Itoa(i)
		l = slices.Insert(l, d.below(len(l)+1), c)
	}
	return l
}

// circuit is a right circuit.
func (d *dice) circuit() api.Circuit {
	c := api.Circuit{Step: d.number(), Method: 1 + d.below(2)}
	for _, name := range d.names(d.some(api.MaxModels)) {
		c.Models = append(c.Models, d.model(name))
	}
	for _, name := range d.names(d.some(api.MaxSubs)) {
		c.Subs = append(c.Subs, api.Sub{Name: name, Ports: d.names(1 + d.below(api.MaxPorts)), Cards: d.cards(c.Models, c.Subs)})
	}
	c.Cards = d.cards(c.Models, c.Subs)
	return c
}

// lines are those of a text of the right circuit c, its lists mixed with one another.
func (d *dice) lines(c api.Circuit) []string {
	text := strings.Split(strings.TrimSuffix(meantText(c), "\n"), "\n")
	lists := make([][]string, 3) // the settings, the models, and the cards; then each subcircuit, which stays in one piece
	lists[0], text = text[:2], text[2:len(text)-1]
	inSub := false
	var subs []string
	for _, s := range text {
		switch {
		case strings.HasPrefix(s, ".model"):
			lists[1] = append(lists[1], s)
		case inSub && s != ".ends":
			subs[len(subs)-1] += "\n" + s
		case s == ".ends":
			subs[len(subs)-1] += "\n" + s
			inSub = false
		case strings.HasPrefix(s, ".subckt"):
			subs, inSub = append(subs, s), true
		default:
			lists[2] = append(lists[2], s)
		}
	}
	mixed := d.mix(append(lists, subs)...)
	if d.one(2) {
		mixed = append(mixed, ".end")
	}
	return strings.Split(strings.Join(mixed, "\n"), "\n")
}

// mix is all of the lists in one, each of them in its order.
func (d *dice) mix(lists ...[]string) []string {
	var l []string
	for {
		lists = slices.DeleteFunc(lists, func(l []string) bool { return len(l) == 0 })
		if len(lists) == 0 {
			return l
		}
		k := d.below(len(lists))
		l, lists[k] = append(l, lists[k][0]), lists[k][1:]
	}
}

// dressed is a text of the lines, with remarks, blanks and great letters, some of them parted.
func (d *dice) dressed(lines []string) string {
	var l []string
	for _, s := range lines {
		if d.one(4) {
			s = strings.ToUpper(s)
		}
		if d.one(4) {
			s = strings.Replace(s, " ", d.of("\n+ ", "\n+", "\t \r", "\n* x\n +", " ; y\n\n+\n+ "), 1)
		}
		if d.one(6) {
			s = d.of("", "* remark .end", ";", "  ") + "\n" + s
		}
		l = append(l, s)
	}
	return strings.Join(l, "\n") + d.of("", "\n", "\n\n", "\n* end")
}

// word is one of those that matter somewhere.
func (d *dice) word() string {
	return d.of("0", "00", "1", "-1", "1u", "1e10", "1x", "a", "b", "a.b", "v0", "v1", "r1", "x1", "euler", "trap", "d", "s", "dc", "pulse", "pwl", "!", "nnnnnnnnnnnnnnnnn", ".", ".end", ".ends", d.names(1)[0])
}

// spoiled are lines of which some were taken out, doubled, put elsewhere, or changed in a word.
func (d *dice) spoiled(lines []string) []string {
	l := slices.Clone(lines)
	for range 1 + d.below(3) {
		if len(l) == 0 {
			return []string{d.word()}
		}
		k, to := d.below(len(l)), d.below(len(l))
		switch d.below(7) {
		case 0:
			if x := slices.IndexFunc(l, func(s string) bool { return strings.HasPrefix(s, "x") }); x >= 0 {
				l[x] = strings.Replace(l[x], " ", d.of(" a ", " 0 ", " a b "), 1)
			}
		case 4:
			l = slices.Delete(l, k, k+1)
		case 1:
			l = slices.Insert(l, to, l[k])
		case 2:
			l[k], l[to] = l[to], l[k]
		case 3:
			l = slices.Insert(l, to, d.of(".end", ".ends", ".subckt a b", ".subckt a 0", ".subckt a b b", ".step 1", ".step 0", ".method trap", ".model a d 1", ".foo", "r1 a 0 1", "d1 a 0 a", "x1 a a", "f1 a 0 v1 1"))
		default:
			words := strings.Fields(l[k])
			if len(words) > 0 {
				words[d.below(len(words))] = d.word()
			}
			if d.one(3) {
				words = append(words, d.word())
			}
			if d.one(4) {
				words = words[:max(1, len(words)-1)]
			}
			l[k] = strings.Join(words, " ")
		}
	}
	return l
}
