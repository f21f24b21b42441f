package card

import (
	"shunt/api"
	"shunt/num"
)

// maxDigits is how many digits a step number has at most.
const maxDigits = 10

// parts are what the words of a line tell.
type parts struct {
	nodes []string
	name  string
	nums  []api.Num
	steps []int
}

// readParts reads words of that shape: all names ahead of all numbers, for that is the errors' order.
func readParts(words []string, shape string) (parts, api.Errno) {
	var p parts
	if len(words) != len(shape) {
		return p, api.ErrCard
	}
	for i, word := range words {
		if !p.takeName(word, shape[i]) {
			return parts{}, api.ErrName
		}
	}
	for i, word := range words {
		if err := p.takeNumber(word, shape[i]); err != api.OK {
			return parts{}, err
		}
	}
	return p, api.OK
}

// takeName takes a word, if it is to be a name, and says whether it is one.
func (p *parts) takeName(word string, what byte) bool {
	switch what {
	case node:
		if !Name(word) {
			return false
		}
		p.nodes = append(p.nodes, anew(word))
	case named:
		if !Name(word) {
			return false
		}
		p.name = anew(word)
	case source:
		if !Device(word) || word[0] != 'v' {
			return false
		}
		p.name = anew(word)
	}
	return true
}

// takeNumber takes a word, if it is to be a number or a step number, or says why it is none.
func (p *parts) takeNumber(word string, what byte) api.Errno {
	switch what {
	case number:
		n, err := num.Parse(word)
		if err != api.OK {
			return err
		}
		p.nums = append(p.nums, n)
	case step:
		n, ok := stepNumber(word)
		if !ok {
			return api.ErrText
		}
		p.steps = append(p.steps, n)
	}
	return api.OK
}

// stepNumber is what a step number says, and whether word is one.
func stepNumber(word string) (int, bool) {
	if len(word) < 1 || len(word) > maxDigits || word[0] == '0' && len(word) > 1 {
		return 0, false
	}
	n := 0
	for i := range len(word) {
		if word[i] < '0' || word[i] > '9' {
			return 0, false
		}
		n = 10*n + int(word[i]-'0')
	}
	return n, n <= api.MaxStep
}

// cardOf is the card of words and of what they tell.
func cardOf(words []string, p parts) api.Card {
	c := api.Card{Name: anew(words[0]), Nodes: p.nodes, Ref: p.name}
	switch {
	case among(c.Name[0], withWave):
		c.Wave = api.Wave{Kind: waveKind(words[3]), Vals: p.nums, Steps: p.steps}
	case among(c.Name[0], withValue):
		c.Value = p.nums[0]
	}
	return c
}

// waveKind is the kind of a wave by its first word.
func waveKind(word string) int {
	switch word {
	case pulseWord:
		return api.WavePulse
	case pwlWord:
		return api.WavePwl
	case tableWord:
		return api.WaveTable
	}
	return api.WaveDC
}

// modelOf is the model of that kind that parts tell: its G and V stand by turns.
func modelOf(kind byte, p parts) api.Model {
	m := api.Model{Name: p.name, Kind: kind}
	for i, n := range p.nums {
		if i%2 == 0 {
			m.G = append(m.G, n)
		} else {
			m.V = append(m.V, n)
		}
	}
	return m
}
