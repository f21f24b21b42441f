package flat

import (
	"slices"
	"strings"

	"shunt/api"
	"shunt/netlist"
)

// maxParts is how many names a long name has at most: a card's own, with an x's of each subcircuit ahead.
const maxParts = api.MaxSubs + 1

// source is the name under which layer 8 is shown the voltage source that a device leans on.
const source = "v"

func rightSettings(f api.Flat) bool {
	return netlist.Check(bare(f)) == api.OK
}

// bare is a circuit without anything in it, of f's settings.
func bare(f api.Flat) api.Circuit { return api.Circuit{Step: f.Step, Method: f.Method} }

func rightNodes(nodes []string) bool {
	if len(nodes) < 1 || len(nodes) > api.MaxNodes || nodes[0] != ground {
		return false
	}
	return rightNames(nodes)
}

func rightDevs(f api.Flat) bool {
	if len(f.Devs) > api.MaxDevs {
		return false
	}
	var names []string
	for _, d := range f.Devs {
		if !rightEnds(f, d) || !rightRef(f, d) || strayModel(d) || !rightAlone(f, d) {
			return false
		}
		names = append(names, d.Name)
	}
	return rightNames(names)
}

// rightNames says whether each is a long name, and no two are the same.
func rightNames(names []string) bool {
	for i, name := range names {
		if !longName(name) || slices.Contains(names[:i], name) {
			return false
		}
	}
	return true
}

func longName(s string) bool {
	parts := strings.SplitN(s, ".", maxParts+1)
	return len(parts) <= maxParts && !slices.ContainsFunc(parts, func(part string) bool { return !isName(part) })
}

// isName says whether s is a name of layer 7, which layer 8's face doesn't tell of texts by themselves.
func isName(s string) bool {
	if len(s) < 1 || len(s) > api.MaxName {
		return false
	}
	return !slices.ContainsFunc([]byte(s), func(b byte) bool { return !isNameByte(b) })
}

func isNameByte(b byte) bool {
	return 'a' <= b && b <= 'z' || '0' <= b && b <= '9' || b == '_'
}

// rightEnds says whether d has as many nodes as its kind, each of them one of f's.
func rightEnds(f api.Flat, d api.Dev) bool {
	ends := endsOf(d.Kind)
	if ends == 0 || len(d.Nodes) != ends {
		return false
	}
	return !slices.ContainsFunc(d.Nodes, func(n int) bool { return n < 0 || n >= len(f.Nodes) })
}

// rightRef says whether d leans on a voltage source of f, if its kind leans on one.
func rightRef(f api.Flat, d api.Dev) bool {
	if !hasRef(d.Kind) {
		return d.Ref == 0
	}
	return 0 <= d.Ref && d.Ref < len(f.Devs) && f.Devs[d.Ref].Kind == 'v'
}

// strayModel says whether d has something of a model, though its kind has none.
func strayModel(d api.Dev) bool {
	m := d.Model
	return !hasModel(d.Kind) && (m.Name != "" || m.Kind != 0 || len(m.G) > 0 || len(m.V) > 0)
}

// rightAlone says whether d has right numbers, a right wave and a right model, as its kind has them. Layer 8 says so of a
// circuit of d alone: all of the devices may have more models than a circuit has.
func rightAlone(f api.Flat, d api.Dev) bool {
	x := api.Card{Name: string([]byte{d.Kind}), Nodes: grounds(len(d.Nodes)), Value: d.Value, Wave: d.Wave}
	c := bare(f)
	switch {
	case hasModel(d.Kind):
		x.Ref = d.Model.Name
		c.Models = []api.Model{d.Model}
	case hasRef(d.Kind):
		x.Ref = source
		c.Cards = []api.Card{{Name: source, Nodes: grounds(2), Wave: api.Wave{Kind: api.WaveDC, Vals: make([]api.Num, 1)}}}
	}
	c.Cards = append(c.Cards, x)
	return netlist.Check(c) == api.OK
}

// grounds are so many ends at the ground.
func grounds(count int) []string {
	return slices.Repeat([]string{ground}, count)
}
