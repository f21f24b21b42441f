package netlist

import (
	"slices"
	"strings"

	"shunt/api"
	"shunt/card"
)

// A reader takes a netlist's lines one by one.
type reader struct {
	circuit api.Circuit // a Step or a Method that wasn't said is 0 as yet
	begun   int         // the line of the .subckt that hasn't ended, or 0
	ended   bool
	places  []place
}

// A place is where a card stands: its line, its scope's number and its number there. What a card's Ref names may follow
// it, so that Refs are asked behind the last line, and told with the card's line.
type place struct {
	at, scope, card int
}

// take takes a line, or says why it is refused.
func (r *reader) take(line api.Line) api.Errno {
	words := line.Words
	switch {
	case r.ended || r.outOfPlace(words[0]):
		return api.ErrOrder
	case !mayHave(words[0], len(words)):
		return api.ErrCard
	}
	switch words[0] {
	case stepWord:
		return r.takeStep(words[1])
	case methodWord:
		return r.takeMethod(words[1])
	case modelWord:
		return r.takeModel(words)
	case subWord:
		return r.takeSub(line.At, words[1], words[2:])
	case endsWord:
		r.begun = 0
	case endWord:
		r.ended = true
	default:
		return r.takeCard(line.At, words)
	}
	return api.OK
}

// outOfPlace says whether a line of that first word may not stand where the reader is, in a subcircuit or outside of one.
func (r *reader) outOfPlace(first string) bool {
	switch first {
	case stepWord, methodWord, modelWord, subWord, endWord:
		return r.begun > 0
	case endsWord:
		return r.begun == 0
	}
	return false
}

// mayHave says whether a line of that first word may have so many words, as far as layer 7 doesn't count them.
func mayHave(first string, count int) bool {
	switch first {
	case stepWord, methodWord:
		return count == 2
	case subWord:
		return 3 <= count && count <= 2+api.MaxPorts
	case endsWord, endWord:
		return count == 1
	case modelWord:
		return true
	}
	return !strings.HasPrefix(first, ".")
}

func (r *reader) takeStep(word string) api.Errno {
	step, err := numberOf(word)
	switch {
	case err != api.OK:
		return err
	case step.Mant <= 0:
		return api.ErrArg
	case r.circuit.Step != api.Num{}:
		return api.ErrTwice
	}
	r.circuit.Step = step
	return api.OK
}

func (r *reader) takeMethod(word string) api.Errno {
	method, ok := methodOf(word)
	switch {
	case !ok:
		return api.ErrCard
	case r.circuit.Method != 0:
		return api.ErrTwice
	}
	r.circuit.Method = method
	return api.OK
}

func (r *reader) takeModel(words []string) api.Errno {
	m, err := card.ReadModel(words)
	switch {
	case err != api.OK:
		return err
	case find(r.circuit.Models, modelName, m.Name) >= 0:
		return api.ErrTwice
	case len(r.circuit.Models) == api.MaxModels:
		return api.ErrMany
	}
	r.circuit.Models = append(r.circuit.Models, m)
	return api.OK
}

func (r *reader) takeSub(at int, name string, ports []string) api.Errno {
	switch {
	case !card.Name(name) || !rightPorts(ports):
		return api.ErrName
	case twice(ports, itself) || find(r.circuit.Subs, subName, name) >= 0:
		return api.ErrTwice
	case len(r.circuit.Subs) == api.MaxSubs:
		return api.ErrMany
	}
	r.circuit.Subs = append(r.circuit.Subs, api.Sub{Name: name, Ports: slices.Clone(ports)})
	r.begun = at
	return api.OK
}

func (r *reader) takeCard(at int, words []string) api.Errno {
	c, err := card.Read(words)
	cards, scope := r.list()
	switch {
	case err != api.OK:
		return err
	case find(*cards, cardName, c.Name) >= 0:
		return api.ErrTwice
	case len(*cards) == api.MaxCards:
		return api.ErrMany
	}
	r.places = append(r.places, place{at, scope, len(*cards)})
	*cards = append(*cards, c)
	return api.OK
}

// list is the list to which a card belongs that stands where the reader is, and its scope's number.
func (r *reader) list() (*[]api.Card, int) {
	if r.begun == 0 {
		return &r.circuit.Cards, 0
	}
	last := len(r.circuit.Subs)
	return &r.circuit.Subs[last-1].Cards, last
}

// faultBehind is what is refused behind the last line, with its place.
func (r *reader) faultBehind() (int, api.Errno) {
	if r.begun > 0 {
		return r.begun, api.ErrOrder
	}
	all := scopes(r.circuit)
	for _, p := range r.places {
		s := all[p.scope]
		if err := s.refFault(s.cards[p.card]); err != api.OK {
			return p.at, err
		}
	}
	return 0, api.OK
}

// whole is the circuit that was read, with what wasn't said.
func (r *reader) whole() api.Circuit {
	c := r.circuit
	if c.Step == (api.Num{}) {
		c.Step = api.Num{Mant: 1, Exp: -6}
	}
	if c.Method == 0 {
		c.Method = api.Euler
	}
	return c
}
