package sparse_test

import (
	"math"
	"slices"
	"testing"

	"shunt/api"
	"shunt/limb"
)

// far are numbers that no row and no column has.
func far() []int {
	return []int{-1, -2, -48, -64, math.MinInt, math.MinInt + 1, math.MinInt32, 48, 49, 63, 64, 65, 127, 128, 256, 1 << 31, 1 << 32, 1<<32 + 1, 1 << 62, math.MaxInt - 1, math.MaxInt}
}

func TestColumnsThatAreNotRight(t *testing.T) {
	for _, wrong := range []string{
		"1", "-1", "0 1", "0 0", "1 0 / -", "- / 1 0", "0 0 / -", "1 1 / 1", "0 / 2", "0 / -1", "-1 0 / 0", "- / 0 2", "0 1 / 0 1 2",
		"0 1 2 / 0 2 1 / -", "0 1 2 / 0 1 1 / -", "0 1 2 / - / 0 1 2 3", "0 1 2 / - / -1 0 1", "1 2 0 / - / -", "0 2 1 2 / - / -", "2 1 0 / 0 / 0", "0 / 1 / 3",
	} {
		refusesPattern(t, of(wrong))
	}
	for _, col := range far() {
		refusesPattern(t, [][]int{{col}})
		refusesPattern(t, [][]int{{0, 1}, {0, col}})
		refusesPattern(t, [][]int{{0, 1}, {col, 0}})
	}
}

// Each row of a pattern of the greatest size is looked at, each of its columns too.
func TestOneWrongColumnAmongAll(t *testing.T) {
	for _, count := range []int{2, 3, 48} {
		for row := range count {
			for _, at := range []int{0, 1, count / 2, count - 1} {
				for _, wrong := range append(far(), at-1, at+1) {
					p := full(count)
					p[row][at] = wrong
					checks(t, p, api.ErrPattern)
				}
			}
			p := full(count)
			p[row] = append(p[row], count-1)
			checks(t, p, api.ErrPattern)
			p[row][count] = count
			checks(t, p, api.ErrPattern)
			p[row] = slices.Insert(upTo(count), 0, 0)
			checks(t, p, api.ErrPattern)
		}
	}
}

func TestLongRows(t *testing.T) {
	refusesPattern(t, [][]int{make([]int, 1<<20), nil})
	refusesPattern(t, [][]int{upTo(1 << 20), nil})
	refusesPattern(t, append(arrow(47), upTo(1<<20)))
}

func TestPlacesThatAreNotInThePattern(t *testing.T) {
	p := of("0 1 2 / 0 1 / 0 2")
	refusesPlace(t, p, 1, 2, api.ErrArg)
	refusesPlace(t, p, 2, 1, api.ErrArg)
	refusesPlace(t, p, 3, 0, api.ErrArg)
	refusesPlace(t, p, 0, 3, api.ErrArg)
	refusesPlace(t, p, 3, 3, api.ErrArg)
	for _, p := range [][][]int{p, nil, of("-"), full(3), full(48), arrow(48)} {
		for _, n := range append(far(), len(p)) {
			for _, m := range append(far(), 0, 1, 2, 47) {
				refusesPlace(t, p, n, m, api.ErrArg)
				refusesPlace(t, p, m, n, api.ErrArg)
				refusesFill(t, p, []int{n}, []int{m}, api.ErrArg)
				refusesFill(t, p, []int{m}, []int{n}, api.ErrArg)
			}
		}
	}
}

func TestListsThatAreNotAsLong(t *testing.T) {
	for _, p := range [][][]int{nil, of("-"), of("0"), of("0 1 2 / 0 1 / 0 2"), full(48)} {
		refusesFill(t, p, []int{0}, nil, api.ErrSize)
		refusesFill(t, p, nil, []int{0}, api.ErrSize)
		refusesFill(t, p, []int{0, 1}, []int{0}, api.ErrSize)
		refusesFill(t, p, []int{0}, []int{0, 1}, api.ErrSize)
		refusesFill(t, p, make([]int, 1<<20), make([]int, 1<<20-1), api.ErrSize)
	}
	p := of("0 1 2 / 0 1 / 0 2")
	refusesFill(t, p, []int{1, 0, 2}, []int{1, 0}, api.ErrSize)
	refusesFill(t, p, []int{1, 0}, []int{1, 0, 2}, api.ErrSize)
}

// Lists that aren't as long are told ahead of places that don't fit, and both behind a pattern that isn't right.
func TestTwoErrorsAtOnce(t *testing.T) {
	p := of("0 1 2 / 0 1 / 0 2")
	for _, n := range far() {
		refusesFill(t, p, []int{n}, nil, api.ErrSize)
		refusesFill(t, p, nil, []int{n}, api.ErrSize)
		refusesFill(t, p, []int{n, 0}, []int{0}, api.ErrSize)
		refusesFill(t, p, []int{0}, []int{n, n}, api.ErrSize)
		for _, wrong := range [][][]int{{{n}}, {{0}, {0}, {1, 0}}, make([][]int, 49)} {
			refusesPlace(t, wrong, n, 0, api.ErrPattern)
			refusesPlace(t, wrong, 0, n, api.ErrPattern)
			refusesFill(t, wrong, []int{n}, []int{n}, api.ErrPattern)
			refusesFill(t, wrong, []int{n}, nil, api.ErrPattern)
		}
	}
	refusesFill(t, p, []int{1, 1}, []int{1}, api.ErrSize)
}

func TestOrdersThatDoNotFit(t *testing.T) {
	p := of("0 1 2 / 0 1 / 0 2")
	for _, x := range []struct{ rows, cols string }{
		{"1", "2"}, {"0 0", "0 1"}, {"0 1", "0 0"}, {"0 0", "0 0"}, {"1 2", "0 0"}, {"1 1", "0 1"},
		{"0 1 2 0", "0 1 2 0"}, {"0 1 2 2", "0 1 2 2"}, {"0 1 2 3", "0 1 2 3"}, {"1 0 2", "1 0 1"}, {"2 1 0", "2 1 2"},
		{"1 2 0", "1 2 1"}, {"-1 0", "0 0"}, {"0 -1", "0 0"}, {"0 1", "0 -1"}, {"0 1", "0 3"},
	} {
		refusesFill(t, p, numbers(x.rows), numbers(x.cols), api.ErrArg)
	}
	// All places of these are in the pattern, but an elimination ahead has taken the later one away.
	refusesFill(t, of("0 1 / 0 1"), []int{0, 0}, []int{0, 1}, api.ErrArg)
	refusesFill(t, of("0 1 / 0 1"), []int{0, 1}, []int{0, 0}, api.ErrArg)
	refusesFill(t, full(48), append(upTo(48), 5), append(upTo(48), 5), api.ErrArg)
	refusesFill(t, full(48), append(upTo(47), 5), append(upTo(47), 47), api.ErrArg)
	refusesFill(t, full(48), append(upTo(47), 47), append(upTo(47), 5), api.ErrArg)
	refusesFill(t, full(48), make([]int, 1<<20), make([]int, 1<<20), api.ErrArg)
	// A place that comes in only by an elimination ahead fits behind it, and not ahead of it.
	fills(t, p, []int{0, 1}, []int{0, 2}, 2)
	refusesFill(t, p, []int{1, 0}, []int{2, 0}, api.ErrArg)
}

func one() api.Int { return limb.Of(1) }

// plain is a right system of so many rows, each with the cell of its diagonal, and one of H and of S.
func plain(count int) api.System {
	var s api.System
	for row := range count {
		cell := func() []api.Cell { return []api.Cell{{Col: row, Val: one()}} }
		s.Rows = append(s.Rows, api.Row{Mult: one(), A: cell(), H: cell(), S: cell(), K: one()})
	}
	return s
}

func TestSystemsThatAreNotRight(t *testing.T) {
	long := api.Int{Limbs: slices.Repeat([]uint32{1}, 73)}
	padded := api.Int{Limbs: []uint32{1, 0}}
	minus := limb.Of(-1)
	spoil := []func(row *api.Row){
		func(row *api.Row) { *row = api.Row{} },
		func(row *api.Row) { row.Mult = api.Int{} },
		func(row *api.Row) { row.Mult = minus },
		func(row *api.Row) { row.Mult = long },
		func(row *api.Row) { row.Mult = padded },
		func(row *api.Row) { row.K = long },
		func(row *api.Row) { row.K = api.Int{Neg: true} },
	}
	for _, wrong := range []api.Cell{{Col: -1, Val: one()}, {Col: 64, Val: one()}, {Col: math.MinInt, Val: one()}, {Col: math.MaxInt, Val: one()}, {}, {Val: long}, {Val: padded}, {Val: api.Int{Neg: true}}} {
		spoil = append(spoil,
			func(row *api.Row) { row.A = []api.Cell{wrong} },
			func(row *api.Row) { row.H = []api.Cell{wrong} },
			func(row *api.Row) { row.S = []api.Cell{wrong} },
		)
	}
	twice := []api.Cell{{Val: one()}, {Val: one()}}
	falling := []api.Cell{{Col: 1, Val: one()}, {Val: one()}}
	for _, cells := range [][]api.Cell{twice, falling} {
		spoil = append(spoil, func(row *api.Row) { row.A = cells }, func(row *api.Row) { row.H = cells }, func(row *api.Row) { row.S = cells })
	}
	for _, count := range []int{1, 2, 5, 48} {
		for _, change := range spoil {
			for _, row := range []int{0, count / 2, count - 1} {
				s := plain(count)
				change(&s.Rows[row])
				refusesOf(t, s)
			}
		}
		s := plain(count)
		s.Rows[count-1].A[0].Col = count
		refusesOf(t, s)
		s = plain(count)
		s.Rows[0].H[0].Col = count
		refusesOf(t, s)
	}
	refusesOf(t, plain(49))
	refusesOf(t, api.System{Rows: make([]api.Row, 49)})
	refusesOf(t, api.System{Rows: make([]api.Row, 1<<16)})
}
