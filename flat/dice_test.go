package flat_test

import (
	"slices"
	"strconv"
	"strings"

	"shunt/api"
)

// dice is a row of numbers that is the same at every run.
type dice uint64

func (d *dice) next() uint64 {
	*d ^= *d << 13
	*d ^= *d >> 7
	*d ^= *d << 17
	return uint64(*d)
}

func (d *dice) below(n int) int { return int(d.next() >> 33 % uint64(n)) }

func (d *dice) of(l ...string) string { return l[d.below(len(l))] }

// one is one in so many.
func (d *dice) one(n int) bool { return d.below(n) == 0 }

func (d *dice) number() api.Num {
	mant := int64(1 + d.below(998))
	if mant%10 == 0 {
		mant++
	}
	return n(mant, d.below(28)-18)
}

// signed is a number that may be 0 or below.
func (d *dice) signed() api.Num {
	x := d.number()
	switch d.below(6) {
	case 0:
		return api.Num{}
	case 1, 2:
		x.Mant = -x.Mant
	}
	return x
}

func (d *dice) numbers(count int) []api.Num {
	var l []api.Num
	for range count {
		l = append(l, d.signed())
	}
	return l
}

// names are so many names, no two the same, none of them 0.
func (d *dice) names(count int) []string {
	var l []string
	for len(l) < count {
		s := d.of("a", "b", "in", "out", "n", "00", "x1", "q_", "nnnnnnnnnnnnnn") + d.of("", strconv.Itoa(d.below(30)))
		if !slices.Contains(l, s) {
			l = append(l, s)
		}
	}
	return l
}

// nodes are so many nodes, of which the ground may be one, and some of those from.
func (d *dice) nodes(count int, from []string) []string {
	var l []string
	for range count {
		l = append(l, d.of(append([]string{"0", "a", "b", "c"}, from...)...))
	}
	return l
}

func (d *dice) model(name string) api.Model {
	if d.one(2) {
		return api.Model{Name: name, Kind: 's', G: d.numbers(2), V: d.numbers(1)}
	}
	v := []api.Num{n(-3, 2), n(1, -5), n(7, 1)}[:d.below(4)]
	return api.Model{Name: name, Kind: 'd', G: d.numbers(len(v) + 1), V: slices.Clone(v)}
}

func (d *dice) wave() api.Wave {
	switch d.below(4) {
	case 0:
		return api.Wave{Kind: api.WavePulse, Vals: d.numbers(2), Steps: []int{d.below(9), d.below(9), d.below(9), d.below(9), 30 + d.below(9)}}
	case 1:
		count := 1 + d.below(4)
		w := api.Wave{Kind: api.WavePwl, Vals: d.numbers(count)}
		for i := range count {
			w.Steps = append(w.Steps, 100*i+d.below(100))
		}
		return w
	case 2:
		return api.Wave{Kind: api.WaveTable, Vals: d.numbers(1 + d.below(4))}
	}
	return api.Wave{Kind: api.WaveDC, Vals: d.numbers(1)}
}

// A list is what the cards of one list may name.
type list struct {
	models         []api.Model
	subs           []api.Sub
	sources, nodes []string
}

// card is a right card of any kind, whose name is its kind; where there is nothing to name it is a resistor.
func (d *dice) card(l list) api.Card {
	switch kind := d.of("r", "r", "c", "l", "i", "e", "g", "t", "f", "h", "d", "s", "x", "x", "x"); kind {
	case "i":
		return api.Card{Name: kind, Nodes: d.nodes(2, l.nodes), Wave: d.wave()}
	case "e", "g", "t":
		return api.Card{Name: kind, Nodes: d.nodes(4, l.nodes), Value: d.signed()}
	case "f", "h":
		if len(l.sources) > 0 {
			return api.Card{Name: kind, Nodes: d.nodes(2, l.nodes), Ref: d.of(l.sources...), Value: d.signed()}
		}
	case "d", "s":
		fit := slices.DeleteFunc(slices.Clone(l.models), func(m api.Model) bool { return m.Kind != kind[0] })
		if len(fit) > 0 {
			return api.Card{Name: kind, Nodes: d.nodes(ends(kind[0]), l.nodes), Ref: fit[d.below(len(fit))].Name}
		}
	case "x":
		if len(l.subs) > 0 {
			s := l.subs[d.below(len(l.subs))]
			return api.Card{Name: kind, Nodes: d.nodes(len(s.Ports), l.nodes), Ref: s.Name}
		}
	default:
		return api.Card{Name: kind, Nodes: d.nodes(2, l.nodes), Value: d.number()}
	}
	return api.Card{Name: "r", Nodes: d.nodes(2, l.nodes), Value: d.number()}
}

// cards are a right list of so many cards.
func (d *dice) cards(l list, count int) []api.Card {
	var cards []api.Card
	for i := range min(d.below(3), count) {
		l.sources = append(l.sources, "v"+strconv.Itoa(i)+d.of("", "_x"))
		cards = append(cards, api.Card{Name: l.sources[i], Nodes: d.nodes(2, l.nodes), Wave: d.wave()})
	}
	for i := len(cards); i < count; i++ {
		c := d.card(l)
		c.Name += d.of("", "a", "_") + strconv.Itoa(i)
		cards = slices.Insert(cards, d.below(len(cards)+1), c)
	}
	return cards
}

// circuit is a right circuit, whose lists have about so many cards.
func (d *dice) circuit(about int) api.Circuit {
	c := api.Circuit{Step: d.number(), Method: 1 + d.below(2)}
	for _, name := range d.names(d.below(5)) {
		c.Models = append(c.Models, d.model(name))
	}
	for _, name := range d.names(d.below(api.MaxSubs + 1)) {
		ports := d.names(1 + d.below(4))
		l := list{models: c.Models, subs: c.Subs, nodes: slices.Concat(ports, ports, d.names(d.below(3)))}
		c.Subs = append(c.Subs, api.Sub{Name: name, Ports: ports, Cards: d.cards(l, d.below(about))})
	}
	c.Cards = d.cards(list{models: c.Models, subs: c.Subs, nodes: d.names(d.below(20))}, d.below(min(3*about, 64)))
	return c
}

// longName is a long name.
func (d *dice) longName() string {
	parts := 1 + d.below(3)
	if d.one(10) {
		parts = 9
	}
	var l []string
	for range parts {
		l = append(l, d.names(1)...)
	}
	return strings.Join(l, ".")
}

// longNames are so many, no two the same.
func (d *dice) longNames(count int) []string {
	var l []string
	for len(l) < count {
		if s := d.longName(); !slices.Contains(l, s) {
			l = append(l, s)
		}
	}
	return l
}

// flat is a right flat circuit made by hand, but that it may have too many unknowns.
func (d *dice) flat() api.Flat {
	nodes, devs := d.below(9), d.below(9)
	if d.one(5) {
		nodes, devs = 31-d.below(3), 64-d.below(40)
	}
	f := api.Flat{Nodes: append([]string{"0"}, d.longNames(nodes)...), Step: d.number(), Method: 1 + d.below(2)}
	var sources []int
	for i, name := range d.longNames(devs) {
		x := api.Dev{Kind: allKinds[d.below(12)], Name: name}
		if d.one(3) {
			x.Kind = "rigd"[d.below(4)]
		}
		if x.Kind == 'v' {
			sources = append(sources, i)
		}
		for range ends(x.Kind) {
			x.Nodes = append(x.Nodes, d.below(len(f.Nodes)))
		}
		switch x.Kind {
		case 'v', 'i':
			x.Wave = d.wave()
		case 'd', 's':
			for x.Model.Kind != x.Kind {
				x.Model = d.model(d.names(1)[0])
			}
		case 'r', 'c', 'l':
			x.Value = d.number()
		default:
			x.Value = d.signed()
		}
		f.Devs = append(f.Devs, x)
	}
	for i := range f.Devs {
		switch x := &f.Devs[i]; {
		case x.Kind != 'f' && x.Kind != 'h':
		case len(sources) == 0:
			x.Kind, x.Value = 'r', n(1, 0)
		default:
			x.Ref = sources[d.below(len(sources))]
		}
	}
	return f
}
