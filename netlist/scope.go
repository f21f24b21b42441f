package netlist

import (
	"slices"

	"shunt/api"
)

// A scope is a list of cards, with what they may name beside one another.
type scope struct {
	cards  []api.Card
	models []api.Model
	subs   []api.Sub
}

// scopes are the lists of a circuit: the netlist's own, and then each subcircuit's, whose cards may name the subcircuits
// ahead of it alone, so that none stands in itself.
func scopes(c api.Circuit) []scope {
	l := []scope{{c.Cards, c.Models, c.Subs}}
	for i, s := range c.Subs {
		l = append(l, scope{s.Cards, c.Models, c.Subs[:i]})
	}
	return l
}

// refFault is what the Ref of a right card of this scope is refused for.
func (s scope) refFault(c api.Card) api.Errno {
	switch kind := c.Name[0]; kind {
	case 'd', 's':
		if i := find(s.models, modelName, c.Ref); i < 0 || s.models[i].Kind != kind {
			return api.ErrRef
		}
	case 'f', 'h':
		// A right card's Ref is a voltage source's name already.
		if find(s.cards, cardName, c.Ref) < 0 {
			return api.ErrRef
		}
	case 'x':
		i := find(s.subs, subName, c.Ref)
		if i < 0 {
			return api.ErrRef
		}
		if len(s.subs[i].Ports) != len(c.Nodes) {
			return api.ErrPorts
		}
	}
	return api.OK
}

func modelName(m api.Model) string { return m.Name }

func subName(s api.Sub) string { return s.Name }

func cardName(c api.Card) string { return c.Name }

// itself is a port's name.
func itself(port string) string { return port }

// find is the place of the first of a list that has that name, or -1.
func find[T any](list []T, nameOf func(T) string, name string) int {
	return slices.IndexFunc(list, func(x T) bool { return nameOf(x) == name })
}

// twice says whether two of a list have one name.
func twice[T any](list []T, nameOf func(T) string) bool {
	for i, x := range list {
		if find(list[:i], nameOf, nameOf(x)) >= 0 {
			return true
		}
	}
	return false
}
