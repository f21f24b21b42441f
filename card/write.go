package card

import (
	"slices"
	"strconv"

	"shunt/api"
	"shunt/num"
	"shunt/wave"
)

// cardWords are the words of a card, where it is right; of one that isn't Read doesn't tell the same card.
func cardWords(c api.Card) []string {
	words := []string{anew(c.Name)}
	for _, s := range c.Nodes {
		words = append(words, anew(s))
	}
	kind := c.Name[0]
	if among(kind, withRef) {
		words = append(words, anew(c.Ref))
	}
	if among(kind, withValue) {
		words = append(words, text(c.Value))
	}
	if among(kind, withWave) {
		words = append(words, waveWords(c.Wave)...)
	}
	return words
}

// waveWords are the words of a wave, or none, if it isn't right.
func waveWords(w api.Wave) []string {
	if !wave.Valid(w) {
		return nil
	}
	switch w.Kind {
	case api.WavePulse:
		return append([]string{pulseWord}, oneByOne(w)...)
	case api.WavePwl:
		words := []string{pwlWord}
		for i, n := range w.Vals {
			words = append(words, strconv.Itoa(w.Steps[i]), text(n))
		}
		return words
	case api.WaveTable:
		return append([]string{tableWord}, oneByOne(w)...)
	}
	return append([]string{dcWord}, oneByOne(w)...)
}

// oneByOne are the words of all of a wave's Vals, and then of all of its Steps.
func oneByOne(w api.Wave) []string {
	var words []string
	for _, n := range w.Vals {
		words = append(words, text(n))
	}
	for _, n := range w.Steps {
		words = append(words, strconv.Itoa(n))
	}
	return words
}

// same says whether two cards are one. A list without elements is one with nil.
func same(a, b api.Card) bool {
	return a.Name == b.Name && slices.Equal(a.Nodes, b.Nodes) && a.Ref == b.Ref && a.Value == b.Value &&
		a.Wave.Kind == b.Wave.Kind && slices.Equal(a.Wave.Vals, b.Wave.Vals) && slices.Equal(a.Wave.Steps, b.Wave.Steps)
}

// text is n in its one form; of a number that isn't right it has no bytes, which no call reads as a number.
func text(n api.Num) string {
	s, _ := num.Text(n)
	return s
}

// anew is s in memory of its own: an answer shares none with what was handed in.
func anew(s string) string { return string([]byte(s)) }
