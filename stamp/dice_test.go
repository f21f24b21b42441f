package stamp_test

import (
	"slices"
	"strconv"

	"shunt/api"
)

// dice is a row of numbers that is the same at every run.
type dice uint64

func (d *dice) next() uint64 {
	*d ^= *d << 13
	*d ^= *d >> 7
	*d ^= *d << 17
	return uint64(*d)
}

func (d *dice) below(n int) int { return int(d.next() >> 33 % uint64(n)) }

// one is one in so many.
func (d *dice) one(n int) bool { return d.below(n) == 0 }

// above is a right number above 0: a short one, a long one, or one of many twos or fives.
func (d *dice) above() api.Num {
	mant := int64(1 + d.below(9))
	switch d.below(4) {
	case 0:
		mant = int64(1 + d.below(api.MaxMant))
	case 1:
		mant = 1 << d.below(30)
	case 2:
		mant = 1
		for range d.below(13) {
			mant *= 5
		}
	}
	if mant%10 == 0 {
		mant++
	}
	return n(mant, d.below(28)-18)
}

// number is a right number that isn't 0.
func (d *dice) number() api.Num {
	x := d.above()
	if d.one(3) {
		x.Mant = -x.Mant
	}
	return x
}

// signed is a right number.
func (d *dice) signed() api.Num {
	if d.one(7) {
		return api.Num{}
	}
	return d.number()
}

func (d *dice) numbers(count int) []api.Num {
	var l []api.Num
	for range count {
		l = append(l, d.signed())
	}
	return l
}

func (d *dice) wave() api.Wave {
	switch d.below(4) {
	case 0:
		return api.Wave{Kind: api.WavePulse, Vals: d.numbers(2), Steps: []int{d.below(9), d.below(9), d.below(9), d.below(9), 30}}
	case 1:
		return api.Wave{Kind: api.WavePwl, Vals: d.numbers(2), Steps: []int{d.below(9), 9 + d.below(9)}}
	case 2:
		return api.Wave{Kind: api.WaveTable, Vals: d.numbers(1 + d.below(4))}
	}
	return api.Wave{Kind: api.WaveDC, Vals: d.numbers(1)}
}

func (d *dice) model(kind byte) api.Model {
	if kind == 's' {
		return api.Model{Name: "sw", Kind: 's', G: d.numbers(2), V: d.numbers(1)}
	}
	v := []api.Num{n(-3, 2), n(1, -5), n(7, 1)}[:d.below(4)]
	return api.Model{Name: "dio", Kind: 'd', G: d.numbers(len(v) + 1), V: slices.Clone(v)}
}

// device is one of that kind, between any of the nodes from least on, without its Ref.
func (d *dice) device(kind byte, name string, least, nodes int) api.Dev {
	x := api.Dev{Kind: kind, Name: name}
	for range ends(kind) {
		x.Nodes = append(x.Nodes, least+d.below(nodes-least))
	}
	switch kind {
	case 'v', 'i':
		x.Wave = d.wave()
	case 'd', 's':
		x.Model = d.model(kind)
	case 'r', 'c', 'l':
		x.Value = d.number()
	default:
		x.Value = d.signed()
	}
	return x
}

// lean gives f and h the places of sources; where there are none they become resistors.
func (d *dice) lean(f api.Flat) {
	var sources []int
	for i, x := range f.Devs {
		if x.Kind == 'v' {
			sources = append(sources, i)
		}
	}
	for i := range f.Devs {
		switch x := &f.Devs[i]; {
		case x.Kind != 'f' && x.Kind != 'h':
		case len(sources) == 0:
			x.Kind, x.Value = 'r', n(1, 0)
		default:
			x.Ref = sources[d.below(len(sources))]
		}
	}
}

// flat is a right flat circuit with at least one device, none of which has a node below least. Its names say nothing of its
// kinds.
func (d *dice) flat(least int) api.Flat {
	f := api.Flat{Nodes: []string{"0"}, Step: d.above(), Method: 1 + d.below(2)}
	for i := range 1 + d.below(5) {
		f.Nodes = append(f.Nodes, "n"+strconv.Itoa(i))
	}
	for i := range 1 + d.below(14) {
		f.Devs = append(f.Devs, d.device((allKinds + "v")[d.below(13)], string([]byte{allKinds[d.below(12)]})+strconv.Itoa(i), least, len(f.Nodes)))
	}
	d.lean(f)
	return f
}

// setting is a right one.
func (d *dice) setting() api.Setting {
	if d.one(3) {
		return api.Setting{Mode: api.Op, Method: d.below(4), Step: api.Num{Mant: int64(d.below(11)), Exp: d.below(40) - 20}}
	}
	return api.Setting{Mode: api.Tran, Method: 1 + d.below(2), Step: d.above()}
}

// segment is a right one of a bent device, any number of another.
func (d *dice) segment(x api.Dev) int {
	if count := len(x.Model.G); count > 0 {
		return d.below(count)
	}
	return d.below(9) - 4
}
