package netlist

import (
	"slices"

	"shunt/api"
	"shunt/card"
)

// rightSettings says whether a circuit's Step and Method are right.
func rightSettings(c api.Circuit) bool {
	_, number := numberText(c.Step)
	_, method := methodText(c.Method)
	return number && c.Step.Mant > 0 && method
}

func rightModels(models []api.Model) bool {
	return !slices.ContainsFunc(models, func(m api.Model) bool {
		_, err := card.WriteModel(m)
		return err != api.OK
	})
}

// rightSubs says whether the names and the ports of subcircuits are right.
func rightSubs(subs []api.Sub) bool {
	return !slices.ContainsFunc(subs, func(s api.Sub) bool { return !card.Name(s.Name) || !rightPorts(s.Ports) })
}

// rightPorts says whether each port is one, and they are as many as may be.
func rightPorts(ports []string) bool {
	if len(ports) < 1 || len(ports) > api.MaxPorts {
		return false
	}
	return !slices.ContainsFunc(ports, func(port string) bool { return !card.Name(port) || port == ground })
}

// rightCards says whether each card of a circuit is right by itself.
func rightCards(c api.Circuit) bool {
	return !slices.ContainsFunc(scopes(c), func(s scope) bool {
		return slices.ContainsFunc(s.cards, func(x api.Card) bool {
			_, err := card.Write(x)
			return err != api.OK
		})
	})
}

// tooMany says whether a list of a circuit has more than it may have.
func tooMany(c api.Circuit) bool {
	return len(c.Models) > api.MaxModels || len(c.Subs) > api.MaxSubs ||
		slices.ContainsFunc(scopes(c), func(s scope) bool { return len(s.cards) > api.MaxCards })
}

// namedTwice says whether two of one list have one name.
func namedTwice(c api.Circuit) bool {
	return twice(c.Models, modelName) || twice(c.Subs, subName) ||
		slices.ContainsFunc(c.Subs, func(s api.Sub) bool { return twice(s.Ports, itself) }) ||
		slices.ContainsFunc(scopes(c), func(s scope) bool { return twice(s.cards, cardName) })
}

// refsFault is what the cards' Refs are refused for: ErrRef of any card comes ahead of ErrPorts of any.
func refsFault(c api.Circuit) api.Errno {
	found := api.OK
	for _, s := range scopes(c) {
		for _, x := range s.cards {
			switch s.refFault(x) {
			case api.ErrRef:
				return api.ErrRef
			case api.ErrPorts:
				found = api.ErrPorts
			}
		}
	}
	return found
}
