package stamp

import (
	"slices"

	"shunt/api"
)

// ground is in the place of the ground's row and of its unknown, for it has neither.
const ground = -1

// unknownOf is the unknown of a node's voltage, and the row of its currents: of the node 0, ground.
func unknownOf(node int) int { return node - 1 }

// A sheet is a list of stamps that grows.
type sheet struct {
	stamps []api.Stamp
}

// put puts a stamp on the sheet, with a copy of val. It leaves those of the ground out; Col is no unknown of S and K, and
// never the ground's there.
func (l *sheet) put(kind, row, col int, val api.Rat) {
	if row == ground || col == ground {
		return
	}
	l.stamps = append(l.stamps, api.Stamp{Kind: kind, Row: row, Col: col, Val: copied(val)})
}

// volts puts x times the voltage from a to b into a row.
func (l *sheet) volts(kind, row, a, b int, x api.Rat) {
	l.put(kind, row, a, x)
	l.put(kind, row, b, minus(x))
}

// through puts x times the current of the branch j, which goes from a to b, into their rows.
func (l *sheet) through(a, b, j int, x api.Rat) {
	l.put(api.StampA, a, j, x)
	l.put(api.StampA, b, j, minus(x))
}

// across puts a current of y times the voltage from c to d, which goes from a to b, into their rows.
func (l *sheet) across(a, b, c, d int, y api.Rat) {
	l.volts(api.StampA, a, c, d, y)
	l.volts(api.StampA, b, c, d, minus(y))
}

// copied is r in memory of its own: one fraction may stand in several stamps.
func copied(r api.Rat) api.Rat {
	r.Num.Limbs, r.Den.Limbs = slices.Clone(r.Num.Limbs), slices.Clone(r.Den.Limbs)
	return r
}

// minus is r with its sign turned.
func minus(r api.Rat) api.Rat {
	r.Num.Neg = !r.Num.Neg && len(r.Num.Limbs) > 0
	return r
}
