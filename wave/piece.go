package wave

import (
	"shunt/api"
	"shunt/num"
	"shunt/rat"
)

// gridUnits are as many as make a volt, or an ampere.
const gridUnits = 1000000000

// A piece is a straight part of a wave: from one value to the other in long steps, of which gone are behind. Where none
// is, the first value is all that counts.
type piece struct {
	from, to   api.Num
	gone, long int
}

// level is a piece on which nothing changes.
func level(n api.Num) piece { return piece{from: n} }

// onGrid is what the piece, of right values, says on the grid. Short of the rounding layers 2 and 3 refuse nothing.
func (p piece) onGrid() (int64, api.Errno) {
	if p.gone == 0 {
		return num.Grid(p.from)
	}
	from, _ := num.Value(p.from)
	to, _ := num.Value(p.to)
	way, _ := rat.Sub(to, from)
	gone, _ := rat.Mul(way, over(p.gone, p.long))
	value, _ := rat.Add(from, gone)
	units, _ := rat.Mul(value, over(gridUnits, 1))
	return rat.Round(units)
}

// over is a over b, which are one limb each.
func over(a, b int) api.Rat {
	r, _ := rat.Make(api.Int{Limbs: []uint32{uint32(a)}}, api.Int{Limbs: []uint32{uint32(b)}})
	return r
}
