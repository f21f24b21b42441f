package system_test

import (
	"slices"
	"strconv"

	"shunt/api"
	"shunt/limb"
)

// dice is a row of numbers that is the same at every run.
type dice uint64

func (d *dice) next() uint64 {
	*d ^= *d << 13
	*d ^= *d >> 7
	*d ^= *d << 17
	return uint64(*d)
}

func (d *dice) below(n int) int { return int(d.next() >> 33 % uint64(n)) }

// one is one in so many.
func (d *dice) one(n int) bool { return d.below(n) == 0 }

// above is a right number above 0: a short one, a long one, or one of many twos or fives.
func (d *dice) above() api.Num {
	mant := int64(1 + d.below(9))
	switch d.below(4) {
	case 0:
		mant = int64(1 + d.below(api.MaxMant))
	case 1:
		mant = 1 << d.below(30)
	case 2:
		mant = 1
		for range d.below(13) {
			mant *= 5
		}
	}
	if mant%10 == 0 {
		mant++
	}
	return n(mant, d.below(28)-18)
}

// number is a right number that isn't 0. Some few come often, so that sums of them are 0 at times.
func (d *dice) number() api.Num {
	x := d.above()
	if d.one(3) {
		x = n(int64(1+d.below(2)), 0)
	}
	if d.one(3) {
		x.Mant = -x.Mant
	}
	return x
}

// signed is a right number.
func (d *dice) signed() api.Num {
	if d.one(7) {
		return api.Num{}
	}
	return d.number()
}

func (d *dice) numbers(count int) []api.Num {
	var l []api.Num
	for range count {
		l = append(l, d.signed())
	}
	return l
}

func (d *dice) wave() api.Wave {
	switch d.below(4) {
	case 0:
		return api.Wave{Kind: api.WavePulse, Vals: d.numbers(2), Steps: []int{d.below(9), d.below(9), d.below(9), d.below(9), 30}}
	case 1:
		return api.Wave{Kind: api.WavePwl, Vals: d.numbers(2), Steps: []int{d.below(9), 9 + d.below(9)}}
	case 2:
		return api.Wave{Kind: api.WaveTable, Vals: d.numbers(1 + d.below(4))}
	}
	return api.Wave{Kind: api.WaveDC, Vals: d.numbers(1)}
}

func (d *dice) model(kind byte) api.Model {
	if kind == 's' {
		return api.Model{Name: "sw", Kind: 's', G: d.numbers(2), V: d.numbers(1)}
	}
	v := []api.Num{n(-3, 2), n(1, -10), n(7, 1)}[:d.below(4)]
	return api.Model{Name: "dio", Kind: 'd', G: d.numbers(len(v) + 1), V: slices.Clone(v)}
}

// device is one of that kind, between any of so many nodes, without its Ref.
func (d *dice) device(kind byte, name string, nodes int) api.Dev {
	x := api.Dev{Kind: kind, Name: name}
	for range ends(kind) {
		x.Nodes = append(x.Nodes, d.below(nodes))
	}
	switch kind {
	case 'v', 'i':
		x.Wave = d.wave()
	case 'd', 's':
		x.Model = d.model(kind)
	case 'r', 'c', 'l':
		x.Value = d.number()
	default:
		x.Value = d.signed()
	}
	return x
}

// lean gives f and h the places of sources; where there are none they become resistors.
func (d *dice) lean(f api.Flat) {
	var sources []int
	for i, x := range f.Devs {
		if x.Kind == 'v' {
			sources = append(sources, i)
		}
	}
	for i := range f.Devs {
		switch x := &f.Devs[i]; {
		case x.Kind != 'f' && x.Kind != 'h':
		case len(sources) == 0:
			x.Kind, x.Value = 'r', n(1, 0)
		default:
			x.Ref = sources[d.below(len(sources))]
		}
	}
}

// flat is a right flat circuit with at least one device. Its names say nothing of its kinds.
func (d *dice) flat() api.Flat {
	f := api.Flat{Nodes: []string{"0"}, Step: d.above(), Method: 1 + d.below(2)}
	for i := range 1 + d.below(5) {
		f.Nodes = append(f.Nodes, "n"+strconv.Itoa(i))
	}
	for i := range 1 + d.below(14) {
		f.Devs = append(f.Devs, d.device((allKinds + "v")[d.below(13)], string([]byte{allKinds[d.below(12)]})+strconv.Itoa(i), len(f.Nodes)))
	}
	d.lean(f)
	return f
}

// setting is a right one.
func (d *dice) setting() api.Setting {
	if d.one(3) {
		return api.Setting{Mode: api.Op, Method: d.below(4), Step: api.Num{Mant: int64(d.below(11)), Exp: d.below(40) - 20}}
	}
	return api.Setting{Mode: api.Tran, Method: 1 + d.below(2), Step: d.above()}
}

// segments are right ones of f.
func (d *dice) segments(f api.Flat) []int {
	var segs []int
	for _, x := range f.Devs {
		if x.Kind == 'd' || x.Kind == 's' {
			segs = append(segs, d.below(len(x.Model.G)))
		}
	}
	return segs
}

// long is a whole number other than 0, of so many limbs at most.
func (d *dice) long(limbs int) api.Int { return d.just(1 + d.below(limbs)) }

// just is a whole number of just so many limbs.
func (d *dice) just(limbs int) api.Int {
	a := api.Int{Neg: d.one(2)}
	for range limbs {
		a.Limbs = append(a.Limbs, uint32([]uint64{0, 1, 1<<32 - 1, d.next(), d.next() >> 7}[d.below(5)]))
	}
	if last := len(a.Limbs) - 1; a.Limbs[last] == 0 {
		a.Limbs[last] = 1 + uint32(d.below(1000))
	}
	return a
}

// any is a whole number, 0 at times.
func (d *dice) any(limbs int) api.Int {
	if d.one(4) {
		return api.Int{}
	}
	return d.long(limbs)
}

// cells are right ones below the bound.
func (d *dice) cells(bound, limbs int) []api.Cell {
	var l []api.Cell
	sparse := 1 + d.below(4)
	for col := range bound {
		if d.one(sparse) {
			l = append(l, api.Cell{Col: col, Val: d.long(limbs)})
		}
	}
	return l
}

// system is a right one made by hand, of numbers of so many limbs at most.
func (d *dice) system(limbs int) api.System {
	var s api.System
	count := d.below(6)
	for range count {
		mult := d.long(limbs)
		mult.Neg = false
		s.Rows = append(s.Rows, api.Row{Mult: mult, A: d.cells(count, limbs), H: d.cells(count, limbs), S: d.cells(d.below(9), limbs), K: d.any(limbs)})
	}
	return s
}

// grid are so many numbers on the grid, a so many-th part of it at most.
func (d *dice) grid(count int, part int64) []int64 {
	var l []int64
	for range count {
		bound := most / part
		x := []int64{0, 1, bound, int64(d.next() >> 2 % uint64(bound+1)), int64(d.below(1000))}[d.below(5)]
		if d.one(2) {
			x = -x
		}
		l = append(l, x)
	}
	return l
}

// plus is a + b, where layer 1 has it.
func plus(a, b api.Int) api.Int {
	c, err := limb.Add(a, b)
	if err != api.OK {
		panic(err)
	}
	return c
}
