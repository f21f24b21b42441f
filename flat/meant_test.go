package flat_test

import (
	"regexp"
	"slices"
	"strings"

	"shunt/api"
	"shunt/model"
	"shunt/netlist"
	"shunt/num"
	"shunt/wave"
)

// What follows is the chapter asked another way: x by x is replaced by its subcircuit's cards, with long names, until none
// is left; only then are nodes and devices counted.

var aLongName = regexp.MustCompile(`^[a-z0-9_]{1,16}(\.[a-z0-9_]{1,16}){0,8}$`)

// A longCard is a card whose name and nodes (and of f and h the Ref) are long ones.
type longCard struct {
	kind byte
	api.Card
}

// laidOut are the cards of c without x, or nil and false, if more x's than may be were replaced.
func laidOut(c api.Circuit) ([]longCard, bool) {
	var l []longCard
	for _, x := range c.Cards {
		l = append(l, longCard{x.Name[0], x})
	}
	for calls := 0; ; calls++ {
		k := slices.IndexFunc(l, func(x longCard) bool { return x.kind == 'x' })
		switch {
		case k < 0:
			return l, true
		case calls == 256:
			return nil, false
		}
		l = slices.Concat(l[:k], inPlace(c, l[k].Card), l[k+1:])
	}
}

// inPlace are the cards that stand in the place of an x.
func inPlace(c api.Circuit, x api.Card) []longCard {
	s := c.Subs[slices.IndexFunc(c.Subs, func(s api.Sub) bool { return s.Name == x.Ref })]
	nodes := map[string]string{"0": "0"}
	for i, port := range s.Ports {
		nodes[port] = x.Nodes[i]
	}
	var l []longCard
	for _, y := range copiedCards(s.Cards) {
		kind := y.Name[0]
		for i, own := range y.Nodes {
			if nodes[own] == "" {
				nodes[own] = x.Name + "." + own
			}
			y.Nodes[i] = nodes[own]
		}
		if kind == 'f' || kind == 'h' {
			y.Ref = x.Name + "." + y.Ref
		}
		y.Name = x.Name + "." + y.Name
		l = append(l, longCard{kind, y})
	}
	return l
}

// meant is what the chapter's words say of Flatten.
func meant(c api.Circuit) told {
	if err := netlist.Check(c); err != api.OK {
		return told{err: err}
	}
	l, ok := laidOut(c)
	if !ok || len(l) > 64 {
		return told{err: 7}
	}
	f := api.Flat{Nodes: []string{"0"}, Step: c.Step, Method: c.Method}
	for _, x := range l {
		for _, node := range x.Nodes {
			if !slices.Contains(f.Nodes, node) {
				f.Nodes = append(f.Nodes, node)
			}
		}
	}
	for _, x := range l {
		d := api.Dev{Kind: x.kind, Name: x.Name, Value: x.Value, Wave: x.Wave}
		for _, node := range x.Nodes {
			d.Nodes = append(d.Nodes, slices.Index(f.Nodes, node))
		}
		switch x.kind {
		case 'f', 'h':
			d.Ref = slices.IndexFunc(l, func(y longCard) bool { return y.Name == x.Ref })
		case 'd', 's':
			d.Model = c.Models[slices.IndexFunc(c.Models, func(m api.Model) bool { return m.Name == x.Ref })]
		}
		f.Devs = append(f.Devs, d)
	}
	switch {
	case len(f.Nodes) > 32:
		return told{err: 7}
	case size(f) > 48:
		return told{err: 5}
	}
	return told{f: f}
}

// size is how many unknowns there are.
func size(f api.Flat) int {
	branches := 0
	for _, d := range f.Devs {
		branches += strings.Count("vehclt", string(rune(d.Kind)))
	}
	return len(f.Nodes) - 1 + branches
}

// meantCheck is what the chapter's words say of Check.
func meantCheck(f api.Flat) api.Errno {
	order, err := num.Cmp(f.Step, n(0, 0))
	names := map[string]int{}
	isRight := err == 0 && order > 0 && (f.Method == 1 || f.Method == 2) && len(f.Nodes) >= 1 && len(f.Nodes) <= 32 && len(f.Devs) <= 64
	for i, node := range f.Nodes {
		names["node "+node]++
		isRight = isRight && (node == "0") == (i == 0) && aLongName.MatchString(node)
	}
	for _, d := range f.Devs {
		names["dev "+d.Name]++
		isRight = isRight && aLongName.MatchString(d.Name) && meantEnds(f, d) && meantParts(f, d)
	}
	for _, times := range names {
		isRight = isRight && times == 1
	}
	switch {
	case !isRight:
		return 90
	case size(f) > 48:
		return 5
	}
	return 0
}

func meantEnds(f api.Flat, d api.Dev) bool {
	for _, node := range d.Nodes {
		if node < 0 || node >= len(f.Nodes) {
			return false
		}
	}
	return len(d.Nodes) == ends(d.Kind) && len(d.Nodes) > 0
}

func meantParts(f api.Flat, d api.Dev) bool {
	has := func(kinds string) bool { return strings.Contains(kinds, string(rune(d.Kind))) }
	value := num.Valid(d.Value) && !(has("rcl") && d.Value == api.Num{}) && !(has("vids") && d.Value != api.Num{})
	waves := wave.Valid(d.Wave)
	if !has("vi") {
		waves = sameWave(d.Wave, api.Wave{})
	}
	models := model.Valid(d.Model) && d.Model.Kind == d.Kind
	if !has("ds") {
		models = sameModel(d.Model, api.Model{})
	}
	ref := d.Ref == 0
	if has("fh") {
		ref = d.Ref >= 0 && d.Ref < len(f.Devs) && f.Devs[d.Ref].Kind == 'v'
	}
	return value && waves && models && ref
}

func meantNode(f api.Flat, name string) (int, api.Errno) {
	for i := range f.Nodes {
		if f.Nodes[i] == name {
			return i, 0
		}
	}
	return 0, 6
}

func meantDev(f api.Flat, name string) (int, api.Errno) {
	for i := range f.Devs {
		if f.Devs[i].Name == name {
			return i, 0
		}
	}
	return 0, 6
}

// meantUnknowns is what the chapter's words say of Unknowns: a branch's number is that of those ahead, behind the nodes.
func meantUnknowns(f api.Flat) (int, []int) {
	if meantCheck(f) != 0 {
		return 0, nil
	}
	var l []int
	for i, d := range f.Devs {
		ahead := api.Flat{Nodes: f.Nodes, Devs: f.Devs[:i]}
		switch d.Kind {
		case 'r', 'i', 'g', 'f', 'd', 's':
			l = append(l, -1)
		default:
			l = append(l, size(ahead))
		}
	}
	return size(f), l
}
