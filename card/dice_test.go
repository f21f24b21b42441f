package card_test

import (
	"slices"
	"strconv"
	"strings"

	"shunt/api"
	"shunt/num"
)

// dice is a row of numbers that is the same at every run.
type dice uint64

func (d *dice) next() uint64 {
	*d ^= *d << 13
	*d ^= *d >> 7
	*d ^= *d << 17
	return uint64(*d)
}

func (d *dice) below(n int) int { return int(d.next() >> 33 % uint64(n)) }

func (d *dice) of(l ...string) string { return l[d.below(len(l))] }

// number is right: 0, of few digits, or of many; the whole span of powers.
func (d *dice) number() api.Num {
	mant := int64(d.below(999999999))
	switch d.below(6) {
	case 0:
		return n(0, 0)
	case 1, 2:
		mant %= 100
	}
	if mant%10 == 0 {
		mant++
	}
	if d.below(2) == 0 {
		mant = -mant
	}
	return n(mant, d.below(28)-18)
}

func (d *dice) numbers(count int) []api.Num {
	var l []api.Num
	for range count {
		l = append(l, d.number())
	}
	return l
}

func (d *dice) name() string {
	var s []byte
	for range []int{1, 2, 3, 15, 16}[d.below(5)] {
		s = append(s, nameBytes[d.below(len(nameBytes))])
	}
	return string(s)
}

func (d *dice) names(count int) []string {
	var l []string
	for range count {
		l = append(l, d.name())
	}
	return l
}

func (d *dice) step() int {
	return []int{0, 1, d.below(20), d.below(20), d.below(1000), d.below(api.MaxStep), api.MaxStep - 1, api.MaxStep}[d.below(8)]
}

// rising are so many steps, each greater than the one ahead.
func (d *dice) rising(count int) []int {
	var l []int
	for len(l) < count {
		l = append(l, d.step()+d.below(9)*d.below(9))
		l[len(l)-1] = min(l[len(l)-1], api.MaxStep)
		slices.Sort(l)
		l = slices.Compact(l)
	}
	return l
}

// wave is right, and of any kind.
func (d *dice) wave() api.Wave {
	switch kind := 1 + d.below(4); kind {
	case api.WaveDC:
		return api.Wave{Kind: kind, Vals: d.numbers(1)}
	case api.WavePulse:
		s := d.rising(3)
		return api.Wave{Kind: kind, Vals: d.numbers(2), Steps: []int{d.step(), s[0], s[1] - s[0], s[2] - s[1], min(s[2]+d.below(3)*d.below(50), api.MaxStep)}}
	case api.WavePwl:
		count := 1 + d.below(16)
		return api.Wave{Kind: kind, Vals: d.numbers(count), Steps: d.rising(count)}
	default:
		return api.Wave{Kind: kind, Vals: d.numbers(1 + d.below(16))}
	}
}

// card is right, and of any kind.
func (d *dice) card() api.Card {
	kind := d.below(len(kinds))
	c := api.Card{Name: kinds[kind:kind+1] + strings.TrimPrefix(d.name(), "a")}
	c.Name = c.Name[:min(len(c.Name), 16)]
	c.Nodes = d.names(2)
	switch kinds[kind] {
	case 'r', 'c', 'l':
		for c.Value.Mant == 0 {
			c.Value = d.number()
		}
	case 'v', 'i':
		c.Wave = d.wave()
	case 'e', 'g', 't':
		c.Nodes, c.Value = d.names(4), d.number()
	case 'f', 'h':
		c.Ref, c.Value = "v"+d.name(), d.number()
		c.Ref = c.Ref[:min(len(c.Ref), 16)]
	case 'd':
		c.Ref = d.name()
	case 's':
		c.Nodes, c.Ref = d.names(4), d.name()
	case 'x':
		c.Nodes, c.Ref = d.names(1+d.below(8)), d.name()
	}
	return c
}

// model is right, and of any kind.
func (d *dice) model() api.Model {
	if d.below(4) == 0 {
		return api.Model{Name: d.name(), Kind: 's', G: d.numbers(2), V: d.numbers(1)}
	}
	count := d.below(4)
	var v []api.Num
	for len(v) < count {
		v = append(v, d.number())
		slices.SortFunc(v, func(a, b api.Num) int {
			order, _ := num.Cmp(a, b)
			return order
		})
		v = slices.Compact(v)
	}
	return api.Model{Name: d.name(), Kind: 'd', G: d.numbers(count + 1), V: v}
}

// form is a text of the number, one of those that are read.
func (d *dice) form() string {
	s := strconv.Itoa(d.below(3000) - 1000)
	return s + d.of("", "", "", ".5", ".050") + d.of("", "", "k", "u", "meg", "f", "g", "e3", "e-9", "e+02")
}

// line is a row of the chapter filled with words, now and then a wrong one, one too many or one too few.
func (d *dice) line(rows []string) []string {
	l := words(rows[d.below(len(rows))])
	for i, what := range l {
		switch what {
		case "A", "B", "C", "D", "N", "MODEL", "SUB", "NAME":
			l[i] = d.name()
		case "REF":
			l[i] = "v" + strconv.Itoa(d.below(30))
		case "X", "OTHER":
			l[i] = d.form()
		case "S":
			l[i] = strconv.Itoa(d.step())
		}
	}
	for d.below(3) == 0 {
		l[d.below(len(l))] = d.of("", "A", "a.b", "00", "1q", "1e10", "1t", "-1", "0", "5", "dc", "pulse", "pwl", "table", "r1", "v1", "1000000001", "x", "d", "s", ".model", d.name(), strings.Repeat("9", 17))
	}
	switch d.below(12) {
	case 0:
		l = slices.Delete(l, len(l)-1, len(l))
	case 1:
		l = append(l, d.of("1", "a", "", "0"))
	}
	return l
}

// cardLine is a line of any kind of card.
func (d *dice) cardLine() []string {
	kind := d.below(len(kinds))
	l := d.line(rows(kinds[kind]))
	if len(l) > 0 && d.below(20) > 0 {
		l[0] = kinds[kind:kind+1] + strconv.Itoa(d.below(30))
	}
	if d.below(3) > 0 {
		l = d.risen(l)
	}
	return l
}

// risen is a line with the steps of its points in order, since few waves are right by chance.
func (d *dice) risen(l []string) []string {
	if len(l) > 4 && l[3] == "pwl" && strings.ContainsAny(l[0][:min(1, len(l[0]))], "vi") {
		for i, s := range d.rising(len(l)/2 - 2) {
			l[4+2*i] = strconv.Itoa(s)
		}
	}
	if len(l) == 11 && l[3] == "pulse" {
		s := d.rising(3)
		l[7], l[8], l[9], l[10] = strconv.Itoa(s[0]), strconv.Itoa(s[1]-s[0]), strconv.Itoa(s[2]-s[1]), strconv.Itoa(s[2])
	}
	return l
}
