package wave

import (
	"slices"

	"shunt/api"
)

func rising(steps []int) bool {
	for i := 1; i < len(steps); i++ {
		if steps[i] <= steps[i-1] {
			return false
		}
	}
	return true
}

// firstAbove is the place of the first of the rising steps that is above the step; -1, if there is none.
func firstAbove(steps []int, step int) int {
	return slices.IndexFunc(steps, func(at int) bool { return at > step })
}

// pointsPieceAt is where the step lies between the points of a Pwl.
func pointsPieceAt(w api.Wave, step int) piece {
	i := firstAbove(w.Steps, step)
	switch i {
	case -1:
		return level(w.Vals[len(w.Vals)-1])
	case 0:
		return level(w.Vals[0])
	}
	begin, end := w.Steps[i-1], w.Steps[i]
	return piece{w.Vals[i-1], w.Vals[i], step - begin, end - begin}
}

func pointsCornerAbove(w api.Wave, step int) (int, bool) {
	i := firstAbove(w.Steps, step)
	if i < 0 {
		return 0, false
	}
	return w.Steps[i], true
}
