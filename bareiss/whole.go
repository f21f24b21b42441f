package bareiss

import (
	"slices"

	"shunt/api"
	"shunt/limb"
)

// right says whether the matrix is.
func right(rows [][]api.Cell) bool {
	if len(rows) > api.MaxSize {
		return false
	}
	return !slices.ContainsFunc(rows, func(cells []api.Cell) bool { return !rightRow(cells, len(rows)) })
}

// rightRow says whether the columns are from 0 on below the bound and rise, and the numbers are right ones other than 0.
func rightRow(cells []api.Cell, bound int) bool {
	least := 0
	for _, c := range cells {
		if c.Col < least || c.Col >= bound || isNought(c.Val) || limb.Check(c.Val) != api.OK {
			return false
		}
		least = c.Col + 1
	}
	return true
}

func allRight(list []api.Int) bool {
	return !slices.ContainsFunc(list, func(a api.Int) bool { return limb.Check(a) != api.OK })
}

// wide says whether one of the list, which are right, has more limbs.
func wide(list []api.Int, limbs int) bool {
	return slices.ContainsFunc(list, func(a api.Int) bool { return !limb.Fits(a, limbs) })
}

func isNought(a api.Int) bool { return len(a.Limbs) == 0 }

// duplicate is a in new memory.
func duplicate(a api.Int) api.Int {
	return api.Int{Neg: a.Neg, Limbs: slices.Clone(a.Limbs)}
}

// What elimination stores has api.MaxLimbs limbs at most: a product of two has twice as many, a sum of api.MaxSize such
// products and one more has one limb more. That is below api.MaxScratch, and the quotients are whole: so layer 1 refuses none
// of these.

func times(a, b api.Int) api.Int {
	c, _ := limb.Mul(a, b)
	return c
}

func minus(a, b api.Int) api.Int {
	c, _ := limb.Sub(a, b)
	return c
}

func over(a, b api.Int) api.Int {
	c, _ := limb.Exact(a, b)
	return c
}

// opposite is -a in new memory.
func opposite(a api.Int) api.Int { return minus(api.Int{}, a) }
