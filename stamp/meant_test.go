package stamp_test

import (
	"strings"

	"shunt/api"
	"shunt/flat"
	"shunt/model"
	"shunt/rat"
)

// What follows is the chapter's table, as it is written there, and read here line by line.

// asR is the line of r, and of d and s with another y.
const asR = "A: A A y, A B -y, B A -y, B B y"

// through are the stamps with which the table begins the kinds that have a branch.
const through = "A: A J 1, B J -1, "

// tableOf is the table's line of a kind in a setting.
func tableOf(kind byte, s api.Setting) string {
	switch kind {
	case 'r', 's':
		return asR
	case 'd':
		return asR + ". K: A -c, B c"
	case 'g':
		return "A: A C x, A D -x, B C -x, B D x"
	case 'v':
		return through + "J A 1, J B -1. S: J k 1"
	case 'i':
		return "S: A k -1, B k 1"
	case 'e':
		return through + "J A 1, J B -1, J C -x, J D x"
	case 'f':
		return "A: A R x, B R -x"
	case 'h':
		return through + "J A 1, J B -1, J R -x"
	case 't':
		return through + "C J -x, D J x, J A 1, J B -1, J C -x, J D x"
	case 'c':
		return through + [3]string{"J J 1", "J J 1, J A -y, J B y. H: J A -y, J B y", "J J 1, J A -y, J B y. H: J A -y, J B y, J J -1"}[how(s)]
	}
	return through + [3]string{"J A 1, J B -1", "J A 1, J B -1, J J -y. H: J J -y", "J A 1, J B -1, J J -y. H: J J -y, J A -1, J B 1"}[how(s)]
}

// how is the method in time, and 0 at rest.
func how(s api.Setting) int {
	if s.Mode == api.Op {
		return 0
	}
	return s.Method
}

// currentOf is what the chapter says of a kind's current.
func currentOf(kind byte) string {
	switch kind {
	case 'r', 's':
		return "A: A y, B -y"
	case 'd':
		return "A: A y, B -y. K: c"
	case 'g':
		return "A: C x, D -x"
	case 'i':
		return "S: k 1"
	case 'f':
		return "A: R x"
	}
	return "A: J 1"
}

// A legend says what the table's letters stand for.
type legend struct {
	places map[string]int
	vals   map[string]api.Rat
}

// legendOf is that of a device; y of a kind without one is left out.
func legendOf(f api.Flat, k int, s api.Setting, seg int) legend {
	_, branches := flat.Unknowns(f)
	d := f.Devs[k]
	l := legend{places: map[string]int{"J": branches[k], "R": branches[d.Ref], "k": k}, vals: map[string]api.Rat{"1": fraction(1, 1), "x": value(d.Value)}}
	for i, node := range d.Nodes {
		l.places["ABCD"[i:i+1]] = node - 1
	}
	switch d.Kind {
	case 'r':
		l.vals["y"], _ = rat.Div(fraction(1, 1), value(d.Value))
	case 'c', 'l':
		if s.Mode == api.Tran {
			twice, _ := rat.Mul(fraction(int64(s.Method), 1), value(d.Value))
			l.vals["y"], _ = rat.Div(twice, value(s.Step))
		}
	case 'd', 's':
		l.vals["y"], l.vals["c"], _ = model.Part(d.Model, seg)
	}
	return l
}

// val is what a word of the table says.
func (l legend) val(word string) api.Rat {
	name, below := strings.CutPrefix(word, "-")
	r, there := l.vals[name]
	if !there {
		panic(word)
	}
	if below {
		r, _ = rat.Sub(fraction(0, 1), r)
	}
	return r
}

// read is what a line of the table says. A stamp has as many words as are needed: K has no Col, and a current no Row.
func (l legend) read(line string, rows bool) []api.Stamp {
	var list []api.Stamp
	for _, part := range strings.Split(line, ". ") {
		kind, rest, _ := strings.Cut(part, ": ")
		for _, one := range strings.Split(rest, ", ") {
			words := strings.Fields(one)
			x := api.Stamp{Kind: 1 + strings.Index("AHSK", kind), Val: l.val(words[len(words)-1])}
			if rows {
				x.Row, words = l.places[words[0]], words[1:]
			}
			if kind != "K" {
				x.Col = l.places[words[0]]
			}
			if x.Row >= 0 && x.Col >= 0 {
				list = append(list, x)
			}
		}
	}
	return list
}

// meant is what the chapter says that Of answers of a right flat circuit, a place in it, a right setting, and a right segment.
func meant(f api.Flat, k int, s api.Setting, seg int) []api.Stamp {
	return legendOf(f, k, s, seg).read(tableOf(f.Devs[k].Kind, s), true)
}

// meantCurrent is what the chapter says that Current answers.
func meantCurrent(f api.Flat, k, seg int) []api.Stamp {
	return legendOf(f, k, rest(), seg).read(currentOf(f.Devs[k].Kind), false)
}
