package lex_test

import (
	"testing"

	"shunt/api"
)

func TestExamples(t *testing.T) {
	says(t, "R1 A b 4.7K ; load", line(1, "r1 a b 4.7k"))
	says(t, "* title\nr1 a 0 1\n+ 2\n+3 4\n\nr2", line(2, "r1 a 0 1 2 3 4"), line(6, "r2"))
	refuses(t, "+ a", 1, api.ErrJoin)
	refuses(t, "a\nb\xc8", 2, api.ErrByte)
	says(t, "")
	says(t, "a\n+\nb", line(1, "a"), line(3, "b"))
	refuses(t, "x "+many(64), 1, api.ErrMany)
}

// The errors' numbers stand in the document.
func TestNumbersOfErrors(t *testing.T) {
	refuses(t, "\x00", 1, 60)
	refuses(t, "+", 1, 61)
	refuses(t, many(65), 1, 7)
	refuses(t, many(40000), 0, 2)
}
