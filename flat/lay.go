package flat

import (
	"slices"
	"strings"

	"shunt/api"
)

// ground is the one node that is the same everywhere.
const ground = "0"

// A layout is a circuit, with what is laid of it.
type layout struct {
	circuit api.Circuit
	flat    api.Flat
	numbers map[string]int // of the nodes that were met, by name
	refs    []string       // of each device the name of the source that it leans on, if it leans on one
	calls   int
}

// A place is where cards are laid: in the netlist itself, or in that of an x.
type place struct {
	ahead string   // the x's names, with a point behind each
	ports []string // and the subcircuit's ports,
	given []string // with the nodes that the x names for them
}

// lay is a right circuit's flat one. It panics, if there is too much of it.
func lay(c api.Circuit) api.Flat {
	l := layout{
		circuit: c,
		flat:    api.Flat{Nodes: []string{ground}, Step: c.Step, Method: c.Method},
		numbers: map[string]int{ground: 0},
	}
	l.cards(c.Cards, place{})
	l.resolve()
	return l.flat
}

// bound gives up, where so many are there that there may be no more of them.
func bound(count, most int) {
	if count >= most {
		panic(api.ErrMany)
	}
}

func (l *layout) cards(cards []api.Card, at place) {
	for _, c := range cards {
		if c.Name[0] == 'x' {
			l.call(c, at)
		} else {
			l.device(c, at)
		}
	}
}

// call lays the cards of x's subcircuit. However little is in them, calls are bound: empty subcircuits may stand in one
// another more often than anybody could wait for.
func (l *layout) call(x api.Card, at place) {
	bound(l.calls, api.MaxCalls)
	l.calls++
	i := slices.IndexFunc(l.circuit.Subs, func(s api.Sub) bool { return s.Name == x.Ref })
	s := l.circuit.Subs[i]
	var given []string
	for _, node := range x.Nodes {
		given = append(given, at.node(node))
	}
	l.cards(s.Cards, place{at.name(x.Name) + ".", s.Ports, given})
}

func (l *layout) device(c api.Card, at place) {
	bound(len(l.flat.Devs), api.MaxDevs)
	d := api.Dev{Kind: c.Name[0], Name: strings.Clone(at.name(c.Name)), Value: c.Value, Wave: waveAnew(c.Wave)}
	for _, node := range c.Nodes {
		d.Nodes = append(d.Nodes, l.number(at.node(node)))
	}
	ref := ""
	switch {
	case hasModel(d.Kind):
		d.Model = l.model(c.Ref)
	case hasRef(d.Kind):
		ref = at.name(c.Ref)
	}
	l.flat.Devs = append(l.flat.Devs, d)
	l.refs = append(l.refs, ref)
}

// number is a node's number; one that wasn't met gets the next.
func (l *layout) number(node string) int {
	if n, ok := l.numbers[node]; ok {
		return n
	}
	n := len(l.flat.Nodes)
	bound(n, api.MaxNodes)
	l.numbers[node] = n
	l.flat.Nodes = append(l.flat.Nodes, strings.Clone(node))
	return n
}

// model is the model of that name, in memory of its own for each device.
func (l *layout) model(name string) api.Model {
	i := slices.IndexFunc(l.circuit.Models, func(m api.Model) bool { return m.Name == name })
	m := l.circuit.Models[i]
	return api.Model{Name: strings.Clone(m.Name), Kind: m.Kind, G: anew(m.G), V: anew(m.V)}
}

// resolve leads the devices to the sources that they lean on: only when all are laid has each its place.
func (l *layout) resolve() {
	for i, ref := range l.refs {
		if ref != "" {
			l.flat.Devs[i].Ref, _ = Dev(l.flat, ref)
		}
	}
}

// name is the long name of what has that name here.
func (p place) name(own string) string { return p.ahead + own }

// node is the long name of the node that has that name here.
func (p place) node(own string) string {
	if own == ground {
		return ground
	}
	if i := slices.Index(p.ports, own); i >= 0 {
		return p.given[i]
	}
	return p.name(own)
}

func waveAnew(w api.Wave) api.Wave {
	return api.Wave{Kind: w.Kind, Vals: anew(w.Vals), Steps: anew(w.Steps)}
}

// anew is a list in memory of its own.
func anew[T any](list []T) []T { return append([]T(nil), list...) }
