package topo_test

import (
	"slices"
	"strconv"

	"shunt/api"
)

// dice is a row of numbers that is the same at every run.
type dice uint64

func (d *dice) next() uint64 {
	*d ^= *d << 13
	*d ^= *d >> 7
	*d ^= *d << 17
	return uint64(*d)
}

func (d *dice) below(n int) int { return int(d.next() >> 33 % uint64(n)) }

// one is one in so many.
func (d *dice) one(n int) bool { return d.below(n) == 0 }

// number is a number that isn't 0.
func (d *dice) number() api.Num {
	x := n(int64(1+d.below(9)), d.below(28)-18)
	if d.one(3) {
		x.Mant = -x.Mant
	}
	return x
}

func (d *dice) signed() api.Num {
	if d.one(9) {
		return api.Num{}
	}
	return d.number()
}

func (d *dice) numbers(count int) []api.Num {
	var l []api.Num
	for range count {
		l = append(l, d.signed())
	}
	return l
}

func (d *dice) wave() api.Wave {
	switch d.below(4) {
	case 0:
		return api.Wave{Kind: api.WavePulse, Vals: d.numbers(2), Steps: []int{d.below(9), d.below(9), d.below(9), d.below(9), 30}}
	case 1:
		return api.Wave{Kind: api.WavePwl, Vals: d.numbers(2), Steps: []int{d.below(9), 9 + d.below(9)}}
	case 2:
		return api.Wave{Kind: api.WaveTable, Vals: d.numbers(1 + d.below(4))}
	}
	return api.Wave{Kind: api.WaveDC, Vals: d.numbers(1)}
}

func (d *dice) model(kind byte) api.Model {
	if kind == 's' {
		return api.Model{Name: "sw", Kind: 's', G: d.numbers(2), V: d.numbers(1)}
	}
	v := []api.Num{n(-3, 2), n(1, -5), n(7, 1)}[:d.below(4)]
	return api.Model{Name: "dio", Kind: 'd', G: d.numbers(len(v) + 1), V: slices.Clone(v)}
}

// device is one of that kind, between any nodes, without its Ref. Nodes of one half are joined by themselves more often than
// to those of the other.
func (d *dice) device(kind byte, name string, nodes int) api.Dev {
	x := api.Dev{Kind: kind, Name: name}
	half := d.below(2)
	for range ends(kind) {
		node := d.below(nodes)
		if nodes > 2 && !d.one(5) {
			node = half*(nodes/2) + d.below(nodes/2)
		}
		x.Nodes = append(x.Nodes, node)
	}
	switch kind {
	case 'v', 'i':
		x.Wave = d.wave()
	case 'd', 's':
		x.Model = d.model(kind)
	case 'r', 'c', 'l':
		x.Value = d.number()
	default:
		x.Value = d.signed()
	}
	return x
}

// lean gives f and h the places of sources; where there are none they become resistors.
func (d *dice) lean(f api.Flat) {
	var sources []int
	for i, x := range f.Devs {
		if x.Kind == 'v' {
			sources = append(sources, i)
		}
	}
	for i := range f.Devs {
		switch x := &f.Devs[i]; {
		case x.Kind != 'f' && x.Kind != 'h':
		case len(sources) == 0:
			x.Kind, x.Value = 'r', n(1, 0)
		default:
			x.Ref = sources[d.below(len(sources))]
		}
	}
}

// flat is a right flat circuit with at most so many devices. Its devices are of any kind, of some, or of few; its names say
// nothing of its kinds.
func (d *dice) flat(most int) api.Flat {
	kinds := []string{allKinds, allKinds, "rrrrvleg", "rrrrtcds", "vvlr", "rvig"}[d.below(6)]
	f := api.Flat{Nodes: []string{"0"}, Step: n(int64(1+d.below(9)), d.below(28)-18), Method: 1 + d.below(2)}
	for i := range d.below(2 + d.below(31)) {
		f.Nodes = append(f.Nodes, "n"+strconv.Itoa(i))
	}
	unknowns := len(f.Nodes) - 1
	for i := range d.below(1 + min(most, 3*len(f.Nodes))) {
		kind := kinds[d.below(len(kinds))]
		if slices.Contains([]byte("vehclt"), kind) {
			if unknowns++; unknowns > api.MaxSize {
				kind = 'r'
			}
		}
		f.Devs = append(f.Devs, d.device(kind, string([]byte{allKinds[d.below(12)]})+strconv.Itoa(i), len(f.Nodes)))
	}
	d.lean(f)
	return f
}

// tied is a right flat circuit of few nodes, each of which resistors tie to the ground.
func (d *dice) tied() api.Flat {
	f := api.Flat{Nodes: []string{"0"}, Step: n(1, -3), Method: 1 + d.below(2)}
	for i := range 1 + d.below(7) {
		f.Nodes = append(f.Nodes, "n"+strconv.Itoa(i))
		f.Devs = append(f.Devs, dev("r t"+strconv.Itoa(i)+" "+strconv.Itoa(i+1)+" "+strconv.Itoa(d.below(i+1))+" 1"))
	}
	for i := range d.below(9) {
		x := d.device((allKinds + "vl")[d.below(14)], "x"+strconv.Itoa(i), len(f.Nodes))
		f.Devs = slices.Insert(f.Devs, d.below(len(f.Devs)+1), x)
	}
	d.lean(f)
	return f
}

// shuffled is f with its devices in another order, and the Refs of f and h gone with them.
func (d *dice) shuffled(f api.Flat) api.Flat {
	var from []int
	for i := range f.Devs {
		from = slices.Insert(from, d.below(i+1), i)
	}
	was := copied(f)
	f.Devs = nil
	for _, k := range from {
		x := was.Devs[k]
		if x.Kind == 'f' || x.Kind == 'h' {
			x.Ref = slices.Index(from, x.Ref)
		}
		f.Devs = append(f.Devs, x)
	}
	return f
}
