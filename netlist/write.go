package netlist

import (
	"strings"

	"shunt/api"
	"shunt/card"
)

// linesOf are the lines of a right circuit.
func linesOf(c api.Circuit) []string {
	step, _ := numberText(c.Step)
	method, _ := methodText(c.Method)
	lines := []string{line(stepWord, step), line(methodWord, method)}
	for _, m := range c.Models {
		words, _ := card.WriteModel(m)
		lines = append(lines, line(words...))
	}
	for _, s := range c.Subs {
		lines = append(lines, line(append([]string{subWord, s.Name}, s.Ports...)...))
		lines = append(lines, cardLines(s.Cards)...)
		lines = append(lines, line(endsWord))
	}
	lines = append(lines, cardLines(c.Cards)...)
	return append(lines, line(endWord))
}

// cardLines are the lines of right cards.
func cardLines(cards []api.Card) []string {
	var lines []string
	for _, c := range cards {
		words, _ := card.Write(c)
		lines = append(lines, line(words...))
	}
	return lines
}

// line is a line of these words.
func line(words ...string) string { return strings.Join(words, " ") + "\n" }
