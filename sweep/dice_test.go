package sweep_test

import (
	"fmt"

	"shunt/api"
	"shunt/sweep"
)

// dice is a row of numbers that is the same at every run.
type dice uint64

func (d *dice) next() uint64 {
	*d ^= *d << 13
	*d ^= *d >> 7
	*d ^= *d << 17
	return uint64(*d)
}

func (d *dice) below(n int) int { return int(d.next() >> 33 % uint64(n)) }

// one is one in so many.
func (d *dice) one(n int) bool { return d.below(n) == 0 }

func (d *dice) of(words ...string) string { return words[d.below(len(words))] }

// A maker makes circuits; unit is the letter behind their sources' values and their models' knots: those of few units of the
// grid (n) are rounded where they are brought up.
type maker struct {
	*dice
	unit  string
	waves bool // DC sources alone, if false
}

// value is a value above 0, below 0 once in a while.
func (m maker) value() string {
	sign := ""
	if m.one(12) {
		sign = "-"
	}
	return sign + m.of("1", "1", "1", "1", "2", "3", "0.5", "0.1", "7", "1k")
}

// amount is one that may be 0.
func (m maker) amount() string {
	if m.one(8) {
		return "0"
	}
	return m.of("", "", "-") + m.of("1", "2", "3", "5", "7", "9", "12", "0.25") + m.unit
}

// wave is what a source says.
func (m maker) wave() string {
	if !m.waves || m.one(2) {
		return "dc " + m.amount()
	}
	return m.of("pulse 0 "+m.amount()+" 1 3 1 1 8", "pwl 1 0 4 "+m.amount()+" 9 "+m.amount(), "table "+m.amount()+" "+m.amount()+" "+m.amount())
}

// model is a diode's, or a switch's: one in many lets a current fall where its voltage rises.
func (m maker) model(kind byte) string {
	g := func() string { return m.of("0", "1", "1", "2", "-1", "-1", "1u", "0.5", "10", m.value()) }
	if kind == 's' {
		return "sw s " + g() + " " + m.amount() + " " + g()
	}
	text := "dio d " + g()
	for _, v := range []string{m.of("-2", "0", "0.5"), m.of("0.7", "1", "1.5"), m.of("2", "3", "5")}[:m.below(4)] {
		text += " " + v + m.unit + " " + g()
	}
	return text
}

// device is the line of one of that kind, between any of so many nodes; the place of its source is 0.
func (m maker) device(kind byte, place, nodes int) string {
	line := fmt.Sprintf("%c %c%d", kind, kind, place)
	for range ends(kind) {
		line += fmt.Sprint(" ", m.below(nodes))
	}
	switch kind {
	case 'v', 'i':
		return line + " " + m.wave()
	case 'd', 's':
		return line + " " + m.model(kind)
	case 'r', 'c', 'l':
		return line + " " + m.value()
	case 'f', 'h':
		return line + " 0 " + m.of("1", "-1", "2", "0", "0.25")
	}
	return line + " " + m.of("1", "-1", "2", "0", "0.25", "3")
}

// circuit is a right flat circuit of few nodes, mostly one with a solution: a source at the place 0, a resistor from each node
// to one ahead of it, and whatever else, of the kinds told.
func (m maker) circuit(kinds string) api.Flat {
	nodes := 2 + m.below(3)
	names, lines := "0", []string{"v v 1 0 " + m.wave()}
	for node := 1; node < nodes; node++ {
		names += fmt.Sprintf(" n%d", node)
		if node > 1 && !m.one(15) {
			lines = append(lines, fmt.Sprintf("r o%d %d %d %s", node, node, m.below(node), m.value()))
		}
	}
	for range 1 + m.below(5) {
		lines = append(lines, m.device(kinds[m.below(len(kinds))], len(lines), nodes))
	}
	return hand(names, lines...)
}

// steep is a circuit that has a solution while its source says 0, and may lose it where currents fall with a rising voltage.
func (m maker) steep() api.Flat {
	g := func() string { return m.of("1", "2", "-1", "-1", "-2", "-0.5", "0") }
	lines := []string{m.of("v v 1 0 dc 0", "i i 0 1 dc 0"), "r r1 1 2 " + m.of("1", "1", "0.5"), "r r2 2 3 1", "r r3 " + m.of("1", "2", "3") + " 0 1"}
	for k := range 1 + m.below(3) {
		line := fmt.Sprintf("d d%d %s 0 d d 1 1%s %s", k, m.of("2", "3"), m.unit, g())
		if m.one(2) {
			line = fmt.Sprintf("s s%d %s 0 %s 0 s s 0 %s%s %s", k, m.of("2", "3"), m.of("1", "2", "3"), m.of("1", "2"), m.unit, g())
		}
		lines = append(lines, line)
	}
	return hand("0 a b c", lines...)
}

// bentKinds have bent devices more often than each of the others; plainKinds have none. Both have many sources.
const (
	bentKinds  = "ddddddddsssssssrrrriiicgfvleht"
	plainKinds = "rrrrrriiiccggffvleht"
)

// maker is one of any unit, with waves or without.
func (d *dice) maker() maker { return maker{d, d.of("", "n", "n", "m"), d.one(2)} }

func (d *dice) options() api.Options {
	return api.Options{Limbs: []int{1, 2, 32, 32, 32, 32}[d.below(6)], Iter: []int{1, 2, 2, 3, 8, 64}[d.below(6)], Workers: 1 + d.below(16)}
}

// scale is the maker's unit in units of the grid.
func (m maker) scale() int64 {
	switch m.unit {
	case "n":
		return 1
	case "m":
		return 1000000
	}
	return 1000000000
}

// steps are so many halves of the maker's unit, whole units where it is that of the grid.
func (m maker) steps(n int) int64 {
	if m.scale() == 1 {
		return int64(n)
	}
	return m.scale() / 2 * int64(n)
}

// span is a range over some source of the circuit, with values near to what its devices look at.
func (m maker) span(f api.Flat) sweep.Range {
	places := sources(f)
	if m.one(2) {
		places = places[len(places)-1:]
	}
	q := sweep.Range{Dev: places[m.below(len(places))], From: m.steps(m.below(41) - 20), By: m.steps(m.below(13) - 6), Count: 1 + m.below(12)}
	if m.one(3) {
		q.From = 0
	}
	switch m.below(8) {
	case 0:
		q.By += int64(m.below(7) - 3)
	case 1:
		q.By *= 1000
	case 2:
		q.By *= 1000 * volt / m.scale()
	}
	return q
}

// odd is a range that is refused, mostly.
func (m maker) odd(f api.Flat) sweep.Range {
	q := m.span(f)
	switch m.below(4) {
	case 0:
		q.Dev = m.below(len(f.Devs)+3) - 1
	case 1:
		q.Count = []int{0, -1, 257, 1 << 32}[m.below(4)]
	case 2:
		q.From = []int64{edge, -edge, edge + 1, -edge - 1, 1<<63 - 1, -1 << 63}[m.below(6)]
	default:
		q.By = []int64{edge, -edge, 2 * edge, 1 << 62, -1 << 62, 1<<63 - 1, -1 << 63}[m.below(7)]
	}
	return q
}
