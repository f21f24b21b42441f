package card

import (
	"strings"

	"shunt/api"
)

// The kinds of devices; those whose cards have a Ref, a Value, a Wave; and those whose Value isn't 0.
const (
	kinds     = "rclviegfhtdsx"
	withRef   = "fhdsx"
	withValue = "rclegfht"
	withWave  = "vi"
	neverZero = "rcl"
)

// The words of a line that stand for themselves.
const (
	modelWord = ".model"
	dcWord    = "dc"
	pulseWord = "pulse"
	pwlWord   = "pwl"
	tableWord = "table"
)

// A line's shape is a text with a byte for each of its words, which says what that word is to be: one of these, or a point
// for a word of which no more is asked, since the shape was chosen by it.
const (
	node   = 'n'
	named  = 'm' // the name of a model or of a subcircuit
	source = 'v' // the name of a voltage source
	number = 'x'
	step   = 's'
)

func isNameByte(b byte) bool {
	return 'a' <= b && b <= 'z' || '0' <= b && b <= '9' || b == '_'
}

// among says whether a kind is one of the list's.
func among(kind byte, list string) bool { return strings.IndexByte(list, kind) >= 0 }

// cardShape is the shape of a card, of which the first word is a device's name. Where it has another length than words,
// the kind may not have as many.
func cardShape(words []string) string {
	switch words[0][0] {
	case 'v', 'i':
		return ".nn" + waveShape(words[min(3, len(words)):])
	case 'e', 'g', 't':
		return ".nnnnx"
	case 'f', 'h':
		return ".nnvx"
	case 'd':
		return ".nnm"
	case 's':
		return ".nnnnm"
	case 'x':
		return "." + again("n", 1, api.MaxPorts, len(words)-2) + "m"
	}
	return ".nnx"
}

// waveShape is the shape of a wave's words.
func waveShape(words []string) string {
	if len(words) == 0 {
		return "x"
	}
	switch words[0] {
	case dcWord:
		return ".x"
	case pulseWord:
		return ".xxsssss"
	case pwlWord:
		return "." + again("sx", 1, api.MaxPoints, len(words)-1)
	case tableWord:
		return "." + again("x", 1, api.MaxPoints, len(words)-1)
	}
	return "x"
}

// modelShape is the shape of a model's words, of which there are four at least.
func modelShape(words []string) string {
	switch words[2] {
	case "d":
		return ".m.x" + again("xx", 0, api.MaxSegs-1, len(words)-4)
	case "s":
		return ".m.xxx"
	}
	return ""
}

// again is piece as often as it goes into the room of so many words, but at least least times and at most most times.
func again(piece string, least, most, room int) string {
	return strings.Repeat(piece, min(max(room/len(piece), least), most))
}
