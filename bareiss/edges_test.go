package bareiss_test

import (
	"math"
	"slices"
	"testing"

	"shunt/api"
	"shunt/bareiss"
	"shunt/limb"
)

func TestNoRowAtAll(t *testing.T) {
	for _, rows := range [][][]api.Cell{nil, {}} {
		for limbs := 1; limbs <= 32; limbs++ {
			f, pivots, err := bareiss.New(rows, limbs)
			if f == nil || pivots != 0 || err != api.OK {
				t.Fatal(limbs, pivots, err)
			}
			factorIs(t, f, nil, nil, nil, limb.Of(1))
			solves(t, f, nil, nil, limb.Of(1))
			solves(t, f, []api.Int{}, nil, limb.Of(1))
			refusesSide(t, f, noughts(1), api.ErrSize)
		}
		refuses(t, rows, 0, 0, api.ErrArg)
		refuses(t, rows, 33, 0, api.ErrArg)
	}
}

func TestOneRow(t *testing.T) {
	f := factored(t, of("7"), 1)
	factorIs(t, f, []int{0}, []int{0}, list("7"), limb.Of(7))
	solves(t, f, list("14"), list("14"), limb.Of(7))
	solves(t, f, list("-3"), list("-3"), limb.Of(7))
	solves(t, f, list("0"), list("0"), limb.Of(7))
	f = factored(t, of("-3"), 1)
	factorIs(t, f, []int{0}, []int{0}, list("-3"), limb.Of(-3))
	solves(t, f, list("6"), list("-6"), limb.Of(3))
	solves(t, f, list("-5"), list("5"), limb.Of(3))
	solves(t, f, list("0"), list("0"), limb.Of(3))
	refuses(t, of("0").cells(), 1, 0, api.ErrSingular)
	refuses(t, [][]api.Cell{{}}, 32, 0, api.ErrSingular)
}

func TestMostRows(t *testing.T) {
	for _, count := range []int{47, 48} {
		ones := slices.Repeat(list("1"), count)
		f := factored(t, unit(count), 1)
		factorIs(t, f, upTo(count), upTo(count), ones, limb.Of(1))
		var b []api.Int
		for i := range count {
			b = append(b, limb.Of(int64(i)-20))
		}
		solves(t, f, b, b, limb.Of(1))
		refuses(t, make([][]api.Cell, count), 1, 0, api.ErrSingular)
	}
	refuses(t, unit(49).cells(), 1, 0, api.ErrPattern)
	refuses(t, make([][]api.Cell, 49), 1, 0, api.ErrPattern)
	refuses(t, make([][]api.Cell, 1<<20), 1, 0, api.ErrPattern)
}

// Of a triangle each pivot costs nothing, from the corner on that has one number in its row or its column.
func TestTriangles(t *testing.T) {
	back := upTo(48)
	slices.Reverse(back)
	for _, x := range []struct {
		in   func(row, col int) bool
		cols []int
	}{
		{func(row, col int) bool { return row <= col }, upTo(48)},
		{func(row, col int) bool { return row >= col }, upTo(48)},
		{func(row, col int) bool { return row+col <= 47 }, back},
		{func(row, col int) bool { return row+col >= 47 }, back},
	} {
		f := factored(t, square(48, func(row, col int) api.Int {
			if !x.in(row, col) {
				return api.Int{}
			}
			return limb.Of(int64(1 + row%2))
		}), 1)
		if rows, cols := f.Order(); !slices.Equal(rows, upTo(48)) || !slices.Equal(cols, x.cols) {
			t.Error(rows, cols)
		}
		if got := f.Det(); !one(got, limb.Of(1<<24)) {
			t.Error(got)
		}
	}
}

func TestLimbsAllowed(t *testing.T) {
	m := of("2 1 / 1 3")
	for _, limbs := range []int{0, -1, 33, 34, 64, 72, math.MinInt, math.MaxInt, 1 << 32, 1<<32 + 1} {
		refuses(t, m.cells(), limbs, 0, api.ErrArg)
		refuses(t, nil, limbs, 0, api.ErrArg)
	}
	for limbs := 1; limbs <= 32; limbs++ {
		solves(t, factored(t, m, limbs), list("5 10"), list("5 15"), limb.Of(5))
	}
}

// Numbers that have just as many limbs as are allowed, and one more: in the matrix, in b and in X.
func TestJustAsManyLimbs(t *testing.T) {
	for limbs := 1; limbs <= 32; limbs++ {
		great, over := most(limbs), twoTo(32*limbs)
		for _, a := range []api.Int{great, opposite(great), twoTo(32*limbs - 1), twoTo(32*limbs - 32)} {
			f := factored(t, matrix{{a}}, limbs)
			factorIs(t, f, []int{0}, []int{0}, []api.Int{a}, a)
			for _, b := range []api.Int{great, opposite(great), {}} {
				solves(t, f, []api.Int{b}, []api.Int{signed(b, a)}, size(a))
			}
			refusesSide(t, f, []api.Int{over}, api.ErrWide)
			refusesSide(t, f, []api.Int{opposite(over)}, api.ErrWide)
		}
		for _, a := range []api.Int{over, opposite(over), most(limbs + 1), most(72)} {
			refuses(t, matrix{{a}}.cells(), limbs, 0, api.ErrWide)
			refuses(t, diagonal(limb.Of(1), limb.Of(1), a).cells(), limbs, 0, api.ErrWide)
			refuses(t, diagonal(a, limb.Of(1), limb.Of(1)).cells(), limbs, 0, api.ErrWide)
		}
		f := factored(t, unit(3), limbs)
		solves(t, f, []api.Int{great, {}, opposite(great)}, []api.Int{great, {}, opposite(great)}, limb.Of(1))
		for at := range 3 {
			b := noughts(3)
			b[at] = over
			refusesSide(t, f, b, api.ErrWide)
			b[at] = most(72)
			refusesSide(t, f, b, api.ErrWide)
		}
	}
}

// A number becomes wide only behind a stage: behind which one the count of pivots tells.
func TestWideBehindAStage(t *testing.T) {
	for _, x := range []struct {
		text   string
		pivots int
	}{
		{"65536 0 / 0 65536", 1}, // in a row without a number in the pivot's column
		{"-65536 0 / 0 65536", 1},
		{"65536 1 / -1 65536", 1},
		{"1 65536 / 65536 -1", 1},
		{"1 65536 / 65537 1", 1},
		{"1 65536 / 65536 0", 1}, // where there was no number
		{"4294967295 1 / 1 4294967295", 1},
		{"2 0 0 / 0 1 0 / 0 0 2147483648", 1}, // far from the pivot
		{"2 0 0 / 0 1 2147483648 / 0 0 1", 1},
		{"2 0 0 / 0 1 0 / 0 2147483648 1", 1},
		{"1 0 0 / 0 65536 0 / 0 0 65536", 2},
		{"256 0 0 / 0 256 0 / 0 0 65536", 2},
		{"1626 0 0 / 0 1626 0 / 0 0 1626", 2},
		{"-1626 0 0 / 0 -1626 0 / 0 0 1626", 2},
		{"256 0 0 0 / 0 256 0 0 / 0 0 256 0 / 0 0 0 256", 3},
		{"1 0 0 / 0 1 65536 / 0 65537 1", 2},
	} {
		refuses(t, of(x.text).cells(), 1, x.pivots, api.ErrWide)
		factored(t, of(x.text), 2)
		asMeant(t, of(x.text), 1)
	}
	// Wide only as it is handed in, and only between two stages.
	refuses(t, of("1 1 / 4294967295 4294967296").cells(), 1, 0, api.ErrWide)
	factored(t, of("1 1 / 4294967295 4294967296"), 2)
	asMeant(t, of("1 65536 0 / 65536 0 1 / 0 1 0"), 1)
	// Just within.
	factorIs(t, factored(t, of("1625 0 0 / 0 1625 0 / 0 0 1625"), 1), upTo(3), upTo(3), list("1625 2640625 4291015625"), whole("4291015625"))
	factorIs(t, factored(t, of("65535 0 / 0 65537"), 1), upTo(2), upTo(2), list("65535 4294967295"), whole("4294967295"))
	factorIs(t, factored(t, of("1 65536 / 65536 1"), 1), upTo(2), upTo(2), list("1 -4294967295"), whole("-4294967295"))
}

// Rows and columns that are left no more stay as they were: what they would become has no say.
func TestWideWhereNothingIsLeft(t *testing.T) {
	for _, x := range []struct{ text, pivots string }{
		{"3 4294967295 / 0 1", "3 3"},
		{"3 0 / 4294967295 1", "3 3"},
		{"3 0 0 / 4294967295 1 0 / 4294967295 0 1", "3 3 3"},
		{"3 4294967295 4294967295 / 0 1 0 / 0 0 1", "3 3 3"},
		{"1 0 0 / 0 5 4294967295 / 0 0 1", "1 5 5"},
		{"1 0 0 / 0 5 0 / 0 4294967295 1", "1 5 5"},
		{"4294967295 0 / 0 1", "4294967295 4294967295"},
	} {
		m := of(x.text)
		asMeant(t, m, 1, noughts(len(m)), slices.Repeat(list("1"), len(m)))
		if got := words(factored(t, m, 1).Pivots()); got != x.pivots {
			t.Errorf("%v: pivots %s, not %s", m, got, x.pivots)
		}
	}
	f := factored(t, of("3 0 / 0 1"), 1)
	solves(t, f, list("4294967295 1"), list("4294967295 3"), limb.Of(3))
	refusesSide(t, f, list("1 4294967295"), api.ErrWide)
	f = factored(t, of("1 0 0 / 0 3 0 / 0 0 1"), 1)
	solves(t, f, list("1431655765 4294967295 1"), list("4294967295 4294967295 3"), limb.Of(3))
}

// A number of b becomes wide only behind a stage, though neither b nor an X is; and an X, though nothing ahead of it is.
func TestWideSides(t *testing.T) {
	f := factored(t, of("65536 0 0 / 0 2 1 / 0 32768 32768"), 1)
	factorIs(t, f, upTo(3), upTo(3), list("65536 131072 2147483648"), whole("2147483648"))
	solves(t, f, list("65536 2 32768"), list("2147483648 2147483648 0"), whole("2147483648"))
	refusesSide(t, f, list("0 3 65536"), api.ErrWide)
	f = factored(t, of("1 65536 / 0 1"), 1)
	solves(t, f, list("0 65535"), list("-4294901760 65535"), limb.Of(1))
	refusesSide(t, f, list("0 65536"), api.ErrWide)
	refusesSide(t, f, list("0 -65536"), api.ErrWide)
	solves(t, f, list("1 65536"), list("-4294967295 65536"), limb.Of(1))
	// Wide only as it is handed in: the first stage makes a 1 of it.
	f = factored(t, of("1 0 / 1 1"), 1)
	refusesSide(t, f, list("4294967295 4294967296"), api.ErrWide)
	solves(t, f, list("4294967294 4294967295"), list("4294967294 1"), limb.Of(1))
	solves(t, factored(t, of("1 0 / 1 1"), 2), list("4294967295 4294967296"), list("4294967295 1"), limb.Of(1))
	// With one limb more all of these are told.
	f = factored(t, of("65536 0 0 / 0 2 1 / 0 32768 32768"), 2)
	solves(t, f, list("0 3 65536"), list("0 2147483648 2147483648"), whole("2147483648"))
	solves(t, factored(t, of("1 65536 / 0 1"), 2), list("0 65536"), list("-4294967296 65536"), limb.Of(1))
}

// Products on the way may have twice the limbs, and some more.
func TestProductsOnTheWay(t *testing.T) {
	for limbs := 1; limbs <= 32; limbs++ {
		great := most(limbs)
		less := minus(great, limb.Of(1))
		lesser := minus(less, limb.Of(1))
		m := matrix{{less, great}, {lesser, less}}
		f := factored(t, m, limbs)
		factorIs(t, f, upTo(2), upTo(2), []api.Int{less, limb.Of(1)}, limb.Of(1))
		solves(t, f, []api.Int{great, less}, list("0 1"), limb.Of(1))
		solves(t, f, []api.Int{less, lesser}, list("1 0"), limb.Of(1))
		solves(t, f, list("1 1"), list("-1 1"), limb.Of(1))
		if limbs > 1 {
			refusesSide(t, f, []api.Int{great, opposite(great)}, api.ErrWide)
		}
	}
	// Sums of many products of the greatest numbers, of which each other one takes the one ahead away.
	for _, limbs := range []int{1, 5, 32} {
		m := square(48, func(row, col int) api.Int {
			switch {
			case row == col:
				return limb.Of(1)
			case row == 0 && col%2 == 1:
				return most(limbs)
			case row == 0:
				return opposite(most(limbs))
			}
			return api.Int{}
		})
		m[0][47] = api.Int{}
		b := slices.Repeat([]api.Int{most(limbs)}, 48)
		solves(t, factored(t, m, limbs), b, b, limb.Of(1))
	}
}

func TestDeterminantsBelowNought(t *testing.T) {
	f := factored(t, of("0 -1 / 1 0"), 1)
	factorIs(t, f, []int{0, 1}, []int{1, 0}, list("-1 -1"), limb.Of(1))
	solves(t, f, list("3 4"), list("4 -3"), limb.Of(1))
	solves(t, f, noughts(2), noughts(2), limb.Of(1))
	f = factored(t, of("1 2 / 3 4"), 1)
	factorIs(t, f, upTo(2), upTo(2), list("1 -2"), limb.Of(-2))
	solves(t, f, list("5 6"), list("-8 9"), limb.Of(2))
	solves(t, f, noughts(2), noughts(2), limb.Of(2))
	f = factored(t, of("0 0 1 / 1 0 0 / 0 1 0"), 1)
	factorIs(t, f, upTo(3), []int{2, 0, 1}, list("1 1 1"), limb.Of(1))
	f = factored(t, of("0 0 -2 / 0 3 0 / 5 0 0"), 1)
	factorIs(t, f, upTo(3), []int{2, 1, 0}, list("-2 -6 -30"), limb.Of(30))
	solves(t, f, list("2 3 5"), list("30 30 -30"), limb.Of(30))
	for _, text := range []string{"-1", "-7 0 / 0 1", "2 3 / 5 7", "0 2 / 3 0", "-1 0 0 / 0 -1 0 / 0 0 -1"} {
		m := of(text)
		if d := factored(t, m, 1).Det(); !d.Neg || !one(d, det(m)) {
			t.Errorf("%v: Det %v", m, d)
		}
	}
}

func TestSidesOfNoughts(t *testing.T) {
	d := dice(1401)
	for range 200 {
		m := d.matrix(1+d.below(6), 1+d.below(2), func() api.Int { return d.small(9) })
		f, _, err := bareiss.New(m.cells(), 32)
		if err != api.OK {
			continue
		}
		b := noughts(len(m))
		solves(t, f, b, b, size(det(m)))
		for i := range b {
			b[i].Limbs = []uint32{}
		}
		solves(t, f, b, noughts(len(m)), size(det(m)))
	}
}

// The number of the pivots tells which number went away: the pattern is that of the numbers, not of what might be there.
func TestNumbersThatGoAway(t *testing.T) {
	// Behind the first stage the place 1 1 is a nought, and costs nothing any more.
	m := of("1 1 1 / 1 1 2 / 1 2 1")
	f := factored(t, m, 1)
	factorIs(t, f, upTo(3), []int{0, 2, 1}, list("1 1 1"), limb.Of(-1))
	asMeant(t, m, 1, list("1 2 3"))
	refuses(t, of("1 1 1 / 1 1 1 / 1 1 1").cells(), 1, 1, api.ErrSingular)
	refuses(t, of("1 1 1 / 1 1 1 / 1 2 1").cells(), 1, 2, api.ErrSingular)
	refuses(t, of("1 2 3 / 4 5 6 / 7 8 9").cells(), 1, 2, api.ErrSingular)
}
