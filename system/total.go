package system

import "shunt/api"

// A total is a row's right side while it is summed up: the magnitudes of all that is above 0, and of all that is below.
// Products, and their sums on the way, may be wider than what comes of them, and too wide for layer 2: so they are reckoned
// here, limb by limb.
type total struct {
	above, below []uint32
}

// totalLimbs hold whatever a row sums up to: fewer than 128 numbers, each times one of 60 bits at most.
const totalLimbs = api.MaxScratch + 3

// rightSide is the sum of H times prev, of S times src, and K.
func rightSide(row api.Row, prev, src []int64) (api.Int, api.Errno) {
	t := total{above: make([]uint32, totalLimbs), below: make([]uint32, totalLimbs)}
	t.addCells(row.H, prev)
	t.addCells(row.S, src)
	t.add(row.K, 1)
	return t.whole()
}

func (t total) addCells(cells []api.Cell, by []int64) {
	for _, c := range cells {
		t.add(c.Val, by[c.Col])
	}
}

// add adds a times by, which is on the grid.
func (t total) add(a api.Int, by int64) {
	side := t.above
	if a.Neg != (by < 0) {
		side = t.below
	}
	size := uint64(max(by, -by))
	addTimes(side, a.Limbs, uint32(size))
	addTimes(side[1:], a.Limbs, uint32(size>>32))
}

// addTimes adds limbs times by to sum, in place; sum has room for it.
func addTimes(sum, limbs []uint32, by uint32) {
	var carry uint64
	for i := 0; i < len(limbs) || carry > 0; i++ {
		carry += uint64(sum[i])
		if i < len(limbs) {
			carry += uint64(limbs[i]) * uint64(by)
		}
		sum[i] = uint32(carry)
		carry >>= 32
	}
}

// whole is what both sides come to. What they have in common at the top goes away; the next limb says which is greater.
func (t total) whole() (api.Int, api.Errno) {
	n := len(t.above)
	for n > 0 && t.above[n-1] == t.below[n-1] {
		n--
	}
	more, less := t.above[:n], t.below[:n]
	neg := n > 0 && more[n-1] < less[n-1]
	if neg {
		more, less = less, more
	}
	rest := difference(more, less)
	if len(rest) > api.MaxScratch {
		return api.Int{}, api.ErrWide
	}
	return api.Int{Neg: neg, Limbs: rest}, api.OK
}

// difference is more - less, which are as long, without noughts at the top.
func difference(more, less []uint32) []uint32 {
	var rest []uint32
	var borrow uint64
	length := 0
	for i := range more {
		d := uint64(more[i]) - uint64(less[i]) - borrow
		rest = append(rest, uint32(d))
		borrow = d >> 63
		if uint32(d) != 0 {
			length = i + 1
		}
	}
	return rest[:length]
}
