package netlist

import (
	"shunt/api"
	"shunt/card"
)

// The first words of the lines that are no cards.
const (
	stepWord   = ".step"
	methodWord = ".method"
	modelWord  = ".model"
	subWord    = ".subckt"
	endsWord   = ".ends"
	endWord    = ".end"
)

// The words of the methods.
const (
	eulerWord = "euler"
	trapWord  = "trap"
)

// ground is the node that no port may be.
const ground = "0"

// methodOf is the method of that word, and whether there is one.
func methodOf(word string) (int, bool) {
	switch word {
	case eulerWord:
		return api.Euler, true
	case trapWord:
		return api.Trap, true
	}
	return 0, false
}

// methodText is the word of a method, and whether there is one.
func methodText(method int) (string, bool) {
	switch method {
	case api.Euler:
		return eulerWord, true
	case api.Trap:
		return trapWord, true
	}
	return "", false
}

// This layer has its numbers from layer 7 alone: a step is read and written as the value of a card that may have any.
const bearer = "e"

// numberOf is the number that a word says, or layer 3's error.
func numberOf(word string) (api.Num, api.Errno) {
	c, err := card.Read([]string{bearer, ground, ground, ground, ground, word})
	return c.Value, err
}

// numberText is a number's one form, and whether the number is right.
func numberText(n api.Num) (string, bool) {
	words, err := card.Write(api.Card{Name: bearer, Nodes: []string{ground, ground, ground, ground}, Value: n})
	if err != api.OK {
		return "", false
	}
	return words[len(words)-1], true
}
