package bareiss_test

import (
	"math"
	"slices"
	"testing"

	"shunt/api"
	"shunt/limb"
)

// far are numbers that no column has.
func far() []int {
	return []int{-1, -2, -48, math.MinInt, math.MinInt + 1, math.MinInt32, 48, 49, 63, 64, 1 << 31, 1 << 32, 1<<32 + 1, math.MaxInt - 1, math.MaxInt}
}

// notRight are numbers that layer 1 refuses.
func notRight() []api.Int {
	return []api.Int{
		{Neg: true}, {Neg: true, Limbs: []uint32{}}, {Limbs: []uint32{0}}, {Neg: true, Limbs: []uint32{0}}, {Limbs: []uint32{5, 0}},
		{Limbs: []uint32{0, 0}}, {Limbs: slices.Repeat([]uint32{1}, 73)}, {Neg: true, Limbs: slices.Repeat([]uint32{1}, 73)},
		{Limbs: append(slices.Repeat([]uint32{1}, 31), 0)}, {Limbs: append(slices.Repeat([]uint32{1}, 71), 0)}, {Limbs: make([]uint32, 1<<16)},
	}
}

// row is one whose cells have these columns, and ones.
func row(cols ...int) []api.Cell {
	var l []api.Cell
	for _, col := range cols {
		l = append(l, api.Cell{Col: col, Val: limb.Of(1)})
	}
	return l
}

// notMatrix fails unless New answers ErrPattern of the rows, with whatever limbs.
func notMatrix(t *testing.T, rows [][]api.Cell) {
	t.Helper()
	for _, limbs := range []int{32, 1, 0, 33, -1} {
		refuses(t, rows, limbs, 0, api.ErrPattern)
	}
}

func TestColumnsThatAreNotRight(t *testing.T) {
	for _, rows := range [][][]api.Cell{
		{row(1)}, {row(-1)}, {row(0, 0)}, {row(0, 1)}, {row(-1, 0)},
		{row(1, 0), row(0)}, {row(0), row(1, 0)}, {row(0, 0), row(1)}, {row(0), row(1, 1)}, {row(0), row(2)}, {row(0), row(0, 2)}, {row(-1), row(0, 1)},
		{row(0, 2, 1), row(1), row(2)}, {row(0), row(0, 1, 1), row(2)}, {row(0), row(1), row(0, 1, 2, 3)}, {row(0), row(1), row(-1, 0, 1)}, {row(0), row(1), row(1, 2, 0)},
		{nil, row(2)}, {nil, nil, row(3)}, {row(2), nil},
	} {
		notMatrix(t, rows)
	}
	for _, col := range far() {
		notMatrix(t, [][]api.Cell{row(col)})
		notMatrix(t, [][]api.Cell{row(0, 1), row(0, col)})
		notMatrix(t, [][]api.Cell{row(0, 1), row(col, 0)})
	}
	notMatrix(t, [][]api.Cell{row(make([]int, 1<<16)...)})
	notMatrix(t, [][]api.Cell{row(upTo(1 << 16)...)})
}

// Each row is looked at, and each of its cells.
func TestOneWrongCellAmongAll(t *testing.T) {
	for _, count := range []int{1, 2, 5, 48} {
		full := func() [][]api.Cell {
			var rows [][]api.Cell
			for range count {
				rows = append(rows, row(upTo(count)...))
			}
			return rows
		}
		for _, i := range []int{0, count / 2, count - 1} {
			for _, at := range []int{0, count / 2, count - 1} {
				for _, col := range append(far(), at-1, at+1) {
					rows := full()
					rows[i][at].Col = col
					refuses(t, rows, 32, 0, api.ErrPattern)
				}
				for _, a := range append(notRight(), api.Int{}, api.Int{Limbs: []uint32{}}) {
					rows := full()
					rows[i][at].Val = a
					refuses(t, rows, 32, 0, api.ErrPattern)
				}
			}
			rows := full()
			rows[i] = append(rows[i], api.Cell{Col: count, Val: limb.Of(1)})
			refuses(t, rows, 32, 0, api.ErrPattern)
		}
	}
}

func TestTooManyRows(t *testing.T) {
	for _, count := range []int{49, 50, 64, 65, 1 << 12} {
		rows := make([][]api.Cell, count)
		notMatrix(t, rows)
		for i := range rows {
			rows[i] = row(i)
		}
		notMatrix(t, rows)
	}
}

// A matrix that isn't right is told ahead of limbs that aren't, these ahead of what is wide, and that as the stages go.
func TestTwoErrorsAtOnceOfNew(t *testing.T) {
	wide := api.Cell{Val: twoTo(1024)}
	notMatrix(t, [][]api.Cell{{wide}, row(1, 0)})
	notMatrix(t, [][]api.Cell{nil, row(1, 0)})
	notMatrix(t, [][]api.Cell{{wide, {Col: 1, Val: api.Int{Limbs: []uint32{0}}}}, nil})
	for _, limbs := range []int{0, 33, -1, math.MinInt, math.MaxInt} {
		refuses(t, [][]api.Cell{{wide}}, limbs, 0, api.ErrArg)
		refuses(t, [][]api.Cell{nil}, limbs, 0, api.ErrArg)
		refuses(t, of("1 2 / 2 4").cells(), limbs, 0, api.ErrArg)
	}
	// Wide as it is handed in, and no pivot from the first stage on, or from a later one.
	refuses(t, [][]api.Cell{{wide}, nil}, 32, 0, api.ErrWide)
	refuses(t, of("1 1 2^32 / 1 1 2^32 / 1 1 1").cells(), 1, 0, api.ErrWide)
	// Wide behind the stage ahead of the one that has no pivot; and no pivot where a number would be wide only later.
	refuses(t, of("1 65536 65536 / 65537 1 1 / 0 0 0").cells(), 2, 2, api.ErrSingular)
	refuses(t, of("1 65536 65536 / 65537 1 1 / 0 0 0").cells(), 1, 1, api.ErrWide)
	refuses(t, of("65536 0 0 / 0 65536 0 / 0 0 0").cells(), 1, 1, api.ErrWide)
	refuses(t, of("65536 0 0 / 0 65536 0 / 0 0 0").cells(), 2, 2, api.ErrSingular)
	refuses(t, of("65536 65536 / 65536 65536").cells(), 1, 1, api.ErrSingular)
	refuses(t, of("4294967295 4294967295 / 4294967295 4294967295").cells(), 1, 1, api.ErrSingular)
}

func TestSidesThatAreNotRight(t *testing.T) {
	for _, count := range []int{1, 2, 5, 48} {
		f := factored(t, unit(count), 32)
		for _, length := range []int{0, 1, count - 1, count + 1, 2 * count, 49, 1 << 12} {
			if length != count {
				refusesSide(t, f, noughts(length), api.ErrSize)
			}
		}
		for _, at := range []int{0, count / 2, count - 1} {
			for _, a := range notRight() {
				b := noughts(count)
				b[at] = a
				refusesSide(t, f, b, api.ErrInt)
			}
		}
		solves(t, f, noughts(count), noughts(count), limb.Of(1))
	}
}

// A side that isn't as long is told ahead of a number that isn't right, and that ahead of one that is wide.
func TestTwoErrorsAtOnceOfSolve(t *testing.T) {
	for limbs := 1; limbs <= 32; limbs += 31 {
		f := factored(t, of("1 65536 / 0 1"), limbs)
		for _, a := range notRight() {
			refusesSide(t, f, []api.Int{a}, api.ErrSize)
			refusesSide(t, f, []api.Int{a, a, a}, api.ErrSize)
			refusesSide(t, f, []api.Int{twoTo(32 * limbs), a}, api.ErrInt)
			refusesSide(t, f, []api.Int{a, twoTo(32 * limbs)}, api.ErrInt)
			refusesSide(t, f, []api.Int{a, most(limbs)}, api.ErrInt)
		}
		refusesSide(t, f, []api.Int{twoTo(32 * limbs)}, api.ErrSize)
		refusesSide(t, f, []api.Int{twoTo(32 * limbs), {}, {}}, api.ErrSize)
		refusesSide(t, f, []api.Int{{}, most(limbs)}, api.ErrWide)
	}
}

// A Solve that is refused leaves the Factor as it was.
func TestRefusedSolvesChangeNothing(t *testing.T) {
	f := factored(t, of("2 1 / 1 3"), 1)
	for _, b := range [][]api.Int{nil, noughts(3), {{Neg: true}, {}}, {twoTo(32), {}}, {{}, twoTo(31)}} {
		if _, err := f.Solve(b); err == api.OK {
			t.Error(b)
		}
		solves(t, f, list("5 10"), list("5 15"), limb.Of(5))
		factorIs(t, f, []int{0, 1}, []int{0, 1}, list("2 5"), limb.Of(5))
	}
}
