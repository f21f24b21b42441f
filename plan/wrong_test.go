package plan_test

import (
	"math"
	"slices"
	"testing"

	"shunt/api"
	"shunt/limb"
	"shunt/plan"
)

// notRight are numbers that layer 1 refuses.
func notRight() []api.Int {
	return []api.Int{
		{Neg: true}, {Limbs: []uint32{0}}, {Neg: true, Limbs: []uint32{0}}, {Limbs: []uint32{5, 0}}, {Limbs: slices.Repeat([]uint32{1}, 73)},
		{Neg: true, Limbs: append(slices.Repeat([]uint32{1}, 31), 0)}, {Limbs: make([]uint32, 1<<12)},
	}
}

// notPattern fails unless New answers ErrPattern, with whatever limbs.
func notPattern(t *testing.T, s api.System) {
	t.Helper()
	for _, limbs := range []int{32, 1, 0, 33, math.MinInt} {
		refuses(t, s, limbs, api.ErrPattern)
	}
}

// spoiled are rows that aren't right in a system of two.
func spoiled() []api.Row {
	fine := func() api.Row { return of("a0:2 a1:1 h0:1 h1:2 s0:3 s63:1 k5 / a0:1").Rows[0] }
	var l []api.Row
	add := func(do func(row *api.Row)) {
		row := fine()
		do(&row)
		l = append(l, row)
	}
	for _, a := range append(notRight(), api.Int{}, limb.Of(-1)) {
		add(func(row *api.Row) { row.Mult = a })
	}
	for _, a := range notRight() {
		add(func(row *api.Row) { row.K = a })
	}
	for _, part := range []func(row *api.Row) []api.Cell{
		func(row *api.Row) []api.Cell { return row.A },
		func(row *api.Row) []api.Cell { return row.H },
		func(row *api.Row) []api.Cell { return row.S },
	} {
		for at := range 2 {
			for _, a := range append(notRight(), api.Int{}) {
				add(func(row *api.Row) { part(row)[at].Val = a })
			}
			for _, col := range []int{-1, 64, math.MinInt, math.MaxInt, 1 << 32} {
				add(func(row *api.Row) { part(row)[at].Col = col })
			}
			add(func(row *api.Row) { part(row)[at].Col = part(row)[1-at].Col })
		}
		add(func(row *api.Row) { slices.Reverse(part(row)) })
	}
	add(func(row *api.Row) { row.A[1].Col = 2 })
	add(func(row *api.Row) { row.H[1].Col = 2 })
	return l
}

func TestSystemsThatAreNotRight(t *testing.T) {
	for _, row := range spoiled() {
		good := of("a0:1 a1:3 / a1:1").Rows[0]
		notPattern(t, api.System{Rows: []api.Row{row, good}})
		notPattern(t, api.System{Rows: []api.Row{good, row}})
	}
	notPattern(t, api.System{Rows: make([]api.Row, 1)})
	notPattern(t, of("a1:1"))
	for _, count := range []int{49, 50, 1 << 12} {
		notPattern(t, api.System{Rows: slices.Repeat(of("a0:1").Rows, count)})
	}
	made(t, api.System{Rows: slices.Repeat(of("a0:1").Rows, 48)}, 32)
}

// The error that the chapter names first is told, of whatever plan: what is wrong with the ask's lengths, with its numbers,
// with the plan, and with what is wide.
func TestTwoErrorsAtOnceOfSolve(t *testing.T) {
	for _, x := range []struct {
		system string
		limbs  int
		pivots int64
		solves int64
		last   api.Errno
	}{
		{"a0:1 h0:2^2300 s1:1 / a1:1", 32, 2, 1, api.ErrWide},
		{"a0:1 h0:2^64 s1:1 / a1:1", 1, 2, 1, api.ErrWide},
		{"a0:1 a1:2 h0:2^2300 s1:1 / a0:2 a1:4", 32, 1, 0, api.ErrSingular},
		{"h0:2^64 s1:1 / h1:1", 1, 0, 0, api.ErrSingular},
		{"a0:2^32 s1:1 / a0:1", 1, 0, 0, api.ErrWide},
		{"a0:65536 s1:1 h0:2^2300 / a1:65536", 1, 1, 0, api.ErrWide},
	} {
		p := made(t, of(x.system), x.limbs)
		for round := range int64(2) {
			off := int64(edge + 1)
			refusesAsk(t, p, plan.Ask{Prev: []int64{off}, Src: []int64{off, 0}}, api.ErrSize)
			refusesAsk(t, p, plan.Ask{Prev: []int64{off, 0, 0}, Src: []int64{0, 0}}, api.ErrSize)
			refusesAsk(t, p, plan.Ask{Prev: []int64{edge, off}, Src: []int64{0}}, api.ErrSize)
			refusesAsk(t, p, plan.Ask{Prev: []int64{edge}, Src: []int64{0}}, api.ErrSize)
			refusesAsk(t, p, plan.Ask{Prev: []int64{edge, off}, Src: []int64{0, 0}}, api.ErrRange)
			refusesAsk(t, p, plan.Ask{Prev: []int64{edge, 0}, Src: []int64{0, -off}}, api.ErrRange)
			counted(t, p, round, round*x.pivots, round*x.solves)
			refusesAsk(t, p, plan.Ask{Prev: []int64{edge, edge}, Src: []int64{0, 0}}, x.last)
			counted(t, p, 1, x.pivots, (1+round)*x.solves)
		}
	}
}

func TestErrorsOfTogether(t *testing.T) {
	right := slices.Repeat([]plan.Ask{prev(5, 10)}, 257)
	for _, p := range []*plan.Plan{made(t, matrix("2 1 / 1 3"), 32), made(t, matrix("1 2 / 2 4"), 32)} {
		for _, workers := range []int{0, -1, -16, 17, 18, 256, math.MinInt, math.MaxInt, 1 << 32, 1<<32 + 1} {
			for _, count := range []int{0, 1, 256, 257} {
				refusesTogether(t, p, right[:count], workers, api.ErrArg)
			}
		}
		for workers := 1; workers <= 16; workers++ {
			refusesTogether(t, p, right, workers, api.ErrMany)
		}
		counted(t, p, 0, 0, 0)
		together(t, p, right[:256], 16)
		if p.Counts().Factors != 1 {
			t.Error(p.Counts())
		}
	}
}
