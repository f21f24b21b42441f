package plan

import (
	"slices"

	"shunt/api"
)

// What a plan keeps of a system lies in memory of its own: whoever handed it in may write over it.

func matrixOf(s api.System) [][]api.Cell {
	var matrix [][]api.Cell
	for _, row := range s.Rows {
		matrix = append(matrix, copyOfCells(row.A))
	}
	return matrix
}

func sidesOf(s api.System) api.System {
	var sides api.System
	for _, row := range s.Rows {
		sides.Rows = append(sides.Rows, api.Row{Mult: copyOf(row.Mult), H: copyOfCells(row.H), S: copyOfCells(row.S), K: copyOf(row.K)})
	}
	return sides
}

func copyOfCells(cells []api.Cell) []api.Cell {
	var list []api.Cell
	for _, c := range cells {
		list = append(list, api.Cell{Col: c.Col, Val: copyOf(c.Val)})
	}
	return list
}

func copyOf(a api.Int) api.Int { return api.Int{Neg: a.Neg, Limbs: slices.Clone(a.Limbs)} }
