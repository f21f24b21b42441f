package pwl_test

import (
	"fmt"
	"slices"

	"shunt/api"
	"shunt/limb"
	"shunt/plan"
)

// dice is a row of numbers that is the same at every run.
type dice uint64

func (d *dice) next() uint64 {
	*d ^= *d << 13
	*d ^= *d >> 7
	*d ^= *d << 17
	return uint64(*d)
}

func (d *dice) below(n int) int { return int(d.next() >> 33 % uint64(n)) }

// one is one in so many.
func (d *dice) one(n int) bool { return d.below(n) == 0 }

func (d *dice) of(words ...string) string { return words[d.below(len(words))] }

// value is a value above 0, below 0 once in a while.
func (d *dice) value() string {
	sign := ""
	if d.one(12) {
		sign = "-"
	}
	return sign + d.of("1", "2", "3", "0.5", "0.1", "7", "10", "1m", "1k", "0.0625")
}

// amount is one that may be 0.
func (d *dice) amount() string {
	if d.one(6) {
		return "0"
	}
	return d.of("", "-") + d.of("1", "2", "3", "5", "0.25", "10", "1m", "1n", "0.7")
}

// model is a diode's, or a switch's: one in many lets a current fall where its voltage rises.
func (d *dice) model(kind byte) string {
	g := func() string { return d.of("0", "1", "2", "1u", "0.5", "10", d.value()) }
	if kind == 's' {
		return "sw s " + g() + " " + d.amount() + " " + g()
	}
	text := "dio d " + g()
	for _, v := range []string{"-2", d.of("-1", "0", "0.25"), d.of("0.7", "1", "2")}[:d.below(4)] {
		text += " " + v + " " + g()
	}
	return text
}

// device is the line of one of that kind, between any of so many nodes; the place of its source is 0.
func (d *dice) device(kind byte, place, nodes int) string {
	line := fmt.Sprintf("%c %c%d", kind, kind, place)
	for range ends(kind) {
		line += fmt.Sprint(" ", d.below(nodes))
	}
	switch kind {
	case 'v', 'i':
		if d.one(3) {
			return line + " pulse 0 " + d.amount() + " 1 2 1 1 8"
		}
		return line + " dc " + d.amount()
	case 'd', 's':
		return line + " " + d.model(kind)
	case 'r', 'c', 'l':
		return line + " " + d.value()
	case 'f', 'h':
		return line + " 0 " + d.amount()
	}
	return line + " " + d.amount()
}

// flat is a right flat circuit of few nodes, mostly one with a solution: a source at the place 0, a resistor from each node
// to one ahead of it, and whatever else, of the kinds told.
func (d *dice) flat(kinds string) api.Flat {
	nodes := 2 + d.below(3)
	names, lines := "0", []string{"v v 1 0 dc " + d.amount()}
	for node := 1; node < nodes; node++ {
		names += fmt.Sprintf(" n%d", node)
		if node > 1 && !d.one(12) {
			lines = append(lines, fmt.Sprintf("r o%d %d %d %s", node, node, d.below(node), d.value()))
		}
	}
	for range 1 + d.below(5) {
		lines = append(lines, d.device(kinds[d.below(len(kinds))], len(lines), nodes))
	}
	return hand(names, lines...)
}

// bentKinds have bent devices twice as often as each of the others; plainKinds have none.
const (
	bentKinds  = "ddddssssrclviegfht"
	plainKinds = "rclviegfht"
)

func (d *dice) setting() api.Setting {
	return []api.Setting{resting(), timed(api.Euler), timed(api.Trap)}[d.below(3)]
}

func (d *dice) options() api.Options {
	return api.Options{Limbs: []int{1, 2, 3, 32, 32, 32}[d.below(6)], Iter: []int{1, 2, 3, 8, 64}[d.below(5)], Workers: 1 + d.below(16)}
}

// segments are a right choice of f.
func (d *dice) segments(f api.Flat) []int {
	var segs []int
	for _, x := range f.Devs {
		if x.Kind == 'd' || x.Kind == 's' {
			segs = append(segs, d.below(len(x.Model.G)))
		}
	}
	return segs
}

// grid are so many numbers on the grid, of a few volts or amperes mostly.
func (d *dice) grid(count int) []int64 {
	var l []int64
	for range count {
		x := []int64{0, 1, 1000000000, int64(d.below(2000000000)), int64(d.below(9)), int64(d.below(21)) * 500000000}[d.below(6)]
		if d.one(40) {
			x = edge
		}
		if d.one(3) {
			x = -x
		}
		l = append(l, x)
	}
	return l
}

// ask is a right one of f.
func (d *dice) ask(f api.Flat) plan.Ask {
	return plan.Ask{Prev: d.grid(unknowns(f)), Src: d.grid(len(f.Devs))}
}

// call is a choice and an ask, one in some of which isn't right.
func (d *dice) call(f api.Flat) ([]int, plan.Ask) {
	segs, a := d.segments(f), d.ask(f)
	switch d.below(24) {
	case 0:
		segs = append(segs, 0)
	case 1:
		a.Prev = append(a.Prev, 0)
	case 2:
		a.Src = a.Src[1:]
	case 3:
		a.Src = slices.Repeat([]int64{edge + 1}, len(a.Src))
	}
	return segs, a
}

// just is a whole number of just so many limbs.
func (d *dice) just(limbs int) api.Int {
	a := api.Int{Neg: d.one(2)}
	for range limbs {
		a.Limbs = append(a.Limbs, uint32([]uint64{0, 1, 1<<32 - 1, d.next(), d.next() >> 7}[d.below(5)]))
	}
	if last := len(a.Limbs) - 1; a.Limbs[last] == 0 {
		a.Limbs[last] = 1 + uint32(d.below(1000))
	}
	return a
}

// solution is one of so many unknowns, of numbers with so many limbs at most, of which most are on the grid.
func (d *dice) solution(count, limbs int) api.Solution {
	x := api.Solution{D: d.just(1 + d.below(limbs))}
	x.D.Neg = false
	for range count {
		a := d.just(1 + d.below(len(x.D.Limbs)))
		switch d.below(6) {
		case 0:
			a = api.Int{}
		case 5:
			a, _ = limb.Mul(x.D, limb.Of(int64(d.below(7))-3+[]int64{edge, -edge, edge / 2, edge / 10, 1 << 61, 1 << 60}[d.below(6)]))
		case 1:
			a, _ = limb.Mul(x.D, limb.Of(int64(d.below(2000))-1000))
		case 2:
			a, _ = limb.Mul(a, limb.Of(int64(d.below(2000000))))
		case 3:
			half, _, _ := limb.QuoRem(x.D, limb.Of(2))
			a, _ = limb.Mul(half, limb.Of(int64(d.below(20))-10))
		}
		x.X = append(x.X, a)
	}
	return x
}
