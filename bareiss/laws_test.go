package bareiss_test

import (
	"slices"
	"testing"

	"shunt/api"
	"shunt/bareiss"
	"shunt/limb"
)

// each goes through all lists of so many numbers from -most to most.
func each(count, most int, do func(l []api.Int)) {
	l := make([]api.Int, count)
	var fill func(at int)
	fill = func(at int) {
		if at == count {
			do(l)
			return
		}
		for n := -most; n <= most; n++ {
			l[at] = limb.Of(int64(n))
			fill(at + 1)
		}
	}
	fill(0)
}

// rowsOf cuts a list into so many rows.
func rowsOf(l []api.Int, count int) matrix {
	return slices.Collect(slices.Chunk(slices.Clone(l), count))
}

// P14.1: all matrices of one and two rows, and of three, of small numbers, with some sides.
func TestAllSmallMatrices(t *testing.T) {
	met := map[api.Errno]int{}
	each(1, 9, func(l []api.Int) { asMeant(t, rowsOf(l, 1), 1, list("0"), list("5"), list("-4294967295")) })
	each(4, 2, func(l []api.Int) {
		err, _ := asMeant(t, rowsOf(l, 2), 1, list("0 0"), list("1 0"), list("0 1"), list("-3 7"), list("2147483648 2147483647"))
		met[err]++
	})
	each(9, 1, func(l []api.Int) {
		err, _ := asMeant(t, rowsOf(l, 3), 1, list("5 -7 11"))
		met[err]++
	})
	if met[api.ErrWide] != 0 || met[api.ErrSingular] < 5000 || met[api.OK] < 10000 {
		t.Error(met)
	}
}

// P14.1: many matrices of numbers of all lengths, with as many limbs as they just need, and fewer.
func TestMatricesAsMeant(t *testing.T) {
	d := dice(1402)
	met, solved := map[api.Errno]int{}, map[api.Errno]int{}
	for range 6000 {
		rows, limbs := 1+d.below(5), 1+d.below(4)
		bits := 1 + d.below(32*limbs)/(1+d.below(rows))
		draw := func() api.Int { return d.bits(bits) }
		m := d.matrix(rows, 1+d.below(3), draw)
		if d.one(9) && rows > 1 {
			m[d.below(rows)] = m[d.below(rows)]
		}
		ofNew, ofSolve := asMeant(t, m, limbs, d.side(rows, draw), d.side(rows, func() api.Int { return d.bits(32 * limbs) }), d.side(rows, func() api.Int { return d.small(3) }))
		met[ofNew]++
		for _, err := range ofSolve {
			solved[err]++
		}
	}
	for _, err := range []api.Errno{api.OK, api.ErrWide, api.ErrSingular} {
		if met[err] < 500 {
			t.Error("New:", met)
		}
	}
	if solved[api.OK] < 500 || solved[api.ErrWide] < 500 {
		t.Error("Solve:", solved)
	}
}

// P14.1: wide numbers of just the allowed size, so that it hangs on single bits whether they are.
func TestMatricesNearTheirLimbs(t *testing.T) {
	d := dice(1403)
	met := map[api.Errno]int{}
	for range 3000 {
		rows, limbs := 2+d.below(2), 1+d.below(3)
		bits := (32*limbs + rows - 1) / rows
		m := square(rows, func(row, col int) api.Int { return api.Int{Neg: d.one(2), Limbs: d.long(bits).Limbs} })
		ofNew, _ := asMeant(t, m, limbs, d.side(rows, func() api.Int { return d.bits(bits) }))
		met[ofNew]++
	}
	if met[api.OK] < 300 || met[api.ErrWide] < 300 {
		t.Error(met)
	}
}

func TestMatricesOfSixRowsAsMeant(t *testing.T) {
	d := dice(1404)
	for range 150 {
		draw := func() api.Int { return d.bits(1 + d.below(40)) }
		asMeant(t, d.matrix(6, 1+d.below(4), draw), 1+d.below(9), d.side(6, draw))
	}
}

// holds fails unless each row's sum of its numbers times X is b's number times D, D is above 0, and so wide as is allowed.
func holds(t *testing.T, m matrix, b []api.Int, s api.Solution, limbs int) {
	t.Helper()
	if len(s.X) != len(m) || s.D.Neg || nought(s.D) || limb.Check(s.D) != api.OK {
		t.Fatalf("%v: X %s, D %s", m, short(words(s.X)), words([]api.Int{s.D}))
	}
	if tooWide(s.X, limbs) || tooWide([]api.Int{s.D}, limbs) {
		t.Fatalf("%v: X %s, D %s", m, short(words(s.X)), words([]api.Int{s.D}))
	}
	for i, row := range m {
		if !one(dot(row, s.X), times(b[i], s.D)) {
			t.Fatalf("%v: row %d isn't b's number: X %s, D %s", m, i, short(words(s.X)), words([]api.Int{s.D}))
		}
	}
}

// primes tell determinants apart by what they leave when divided.
var primes = []uint64{4294967291, 4294967279, 2147483647, 1000000007}

// rest is a modulo p.
func rest(a api.Int, p uint64) uint64 {
	var r uint64
	for _, x := range slices.Backward(a.Limbs) {
		r = (r<<32 | uint64(x)) % p
	}
	if a.Neg {
		r = (p - r) % p
	}
	return r
}

// powerRest is x to the power n, modulo p.
func powerRest(x, n, p uint64) uint64 {
	out := uint64(1)
	for ; n > 0; n >>= 1 {
		if n&1 == 1 {
			out = out * x % p
		}
		x = x * x % p
	}
	return out
}

// detRest is the determinant modulo p, by elimination with the first number of each column.
func detRest(m matrix, p uint64) uint64 {
	a := make([][]uint64, len(m))
	for i, row := range m {
		for _, x := range row {
			a[i] = append(a[i], rest(x, p))
		}
	}
	out := uint64(1)
	for k := range a {
		at := slices.IndexFunc(a[k:], func(row []uint64) bool { return row[k] != 0 })
		if at < 0 {
			return 0
		}
		if at > 0 {
			a[k], a[k+at] = a[k+at], a[k]
			out = (p - out) % p
		}
		out = out * a[k][k] % p
		inverse := powerRest(a[k][k], p-2, p)
		for i := k + 1; i < len(a); i++ {
			factor := a[i][k] * inverse % p
			for j := k; j < len(a); j++ {
				a[i][j] = (a[i][j] + (p-factor)*a[k][j]%p) % p
			}
		}
	}
	return out
}

// detHolds fails unless Det is the determinant, as far as the primes tell, and D and the last pivot are it but for the sign.
func detHolds(t *testing.T, m matrix, f *bareiss.Factor, d api.Int) {
	t.Helper()
	got := f.Det()
	for _, p := range primes {
		if rest(got, p) != detRest(m, p) {
			t.Fatalf("%v: Det %s isn't the determinant", m, words([]api.Int{got}))
		}
	}
	pivots := f.Pivots()
	if last := pivots[len(pivots)-1]; !one(size(last), size(got)) || !one(d, size(got)) {
		t.Fatalf("%v: the last pivot %s, D %s, Det %s", m, words([]api.Int{last}), words([]api.Int{d}), words([]api.Int{got}))
	}
}

// P14.2: matrices of all sizes, full and thin.
func TestSolvedIsSolved(t *testing.T) {
	d := dice(1405)
	solved := 0
	for range 400 {
		rows := 1 + d.below(12)
		draw := func() api.Int { return d.bits(1 + d.below(60)) }
		m, b := d.matrix(rows, 1+d.below(3), draw), d.side(rows, draw)
		f, _, err := bareiss.New(m.cells(), 32)
		if err != api.OK {
			continue
		}
		s, err := f.Solve(b)
		if err != api.OK {
			t.Fatalf("%v: error %d", m, err)
		}
		solved++
		holds(t, m, b, s, 32)
		detHolds(t, m, f, s.D)
	}
	if solved < 200 {
		t.Error(solved)
	}
}

func TestSolvedOfMostRows(t *testing.T) {
	d := dice(1406)
	for _, parts := range []int{1, 2, 5, 12} {
		m := d.matrix(48, parts, func() api.Int { return d.small(2000) })
		for i := range m {
			m[i][(i*5+3)%48] = limb.Of(3001)
		}
		f := factored(t, m, 32)
		for range 3 {
			b := d.side(48, func() api.Int { return d.small(2000) })
			s, err := f.Solve(b)
			if err != api.OK {
				t.Fatal(parts, err)
			}
			holds(t, m, b, s, 32)
			detHolds(t, m, f, s.D)
		}
	}
}

// triangle has ones, or what the dice say, on the diagonal, and small numbers below it (or above it).
func (d *dice) triangle(count int, below bool, diagonal func() api.Int) matrix {
	return square(count, func(row, col int) api.Int {
		switch {
		case row == col:
			return diagonal()
		case (row > col) == below:
			return d.small(2)
		}
		return api.Int{}
	})
}

// moved is the matrix with its rows in this order.
func (m matrix) moved(order []int) matrix {
	out := make(matrix, len(m))
	for i, at := range order {
		out[i] = m[at]
	}
	return out
}

// oddMoves says whether the order takes an odd number of changes of two, by its rings: each of n takes n - 1.
func oddMoves(order []int) bool {
	seen, moves := make([]bool, len(order)), 0
	for start := range order {
		length := 0
		for at := start; !seen[at]; at = order[at] {
			seen[at] = true
			length++
		}
		moves += max(length-1, 0)
	}
	return moves%2 == 1
}

// P14.2, P14.3: products of two triangles, with rows put into another order: the determinant is the diagonals' product.
func TestDeterminantsOfProducts(t *testing.T) {
	d := dice(1407)
	ones := func() api.Int { return limb.Of(1) }
	for range 120 {
		rows := 1 + d.below(10)
		low := d.triangle(rows, true, ones)
		high := d.triangle(rows, false, func() api.Int { return limb.Of(int64(d.below(9)) - 4) })
		order := d.shuffled(rows)
		m := low.by(high).moved(order)
		want := limb.Of(1)
		for i := range rows {
			want = times(want, high[i][i])
		}
		if oddMoves(order) {
			want = opposite(want)
		}
		f, _, err := bareiss.New(m.cells(), 32)
		switch {
		case nought(want) && (err != api.ErrSingular || f != nil):
			t.Fatalf("%v: singular, but error %d", m, err)
		case !nought(want) && (err != api.OK || !one(f.Det(), want)):
			t.Fatalf("%v: error %d, not Det %s", m, err, words([]api.Int{want}))
		}
	}
}

// P14.3: a matrix of rank k has k pivots, whatever they are: singular ones at each stage.
func TestSingularAtEachStage(t *testing.T) {
	d := dice(1408)
	check := func(rows, rank, most int) {
		t.Helper()
		high := d.triangle(rows, false, func() api.Int { return limb.Of(int64(1 + d.below(most))) })
		for i := rank; i < rows; i++ {
			high[i] = noughts(rows)
		}
		m := d.triangle(rows, true, func() api.Int { return limb.Of(-1) }).by(high).moved(d.shuffled(rows))
		if rank == rows {
			factored(t, m, 32)
			return
		}
		refuses(t, m.cells(), 32, rank, api.ErrSingular)
	}
	for rows := 1; rows <= 9; rows++ {
		for rank := range rows + 1 {
			for range 6 {
				check(rows, rank, 7)
			}
		}
	}
	for _, rank := range []int{0, 1, 2, 24, 46, 47, 48} {
		check(48, rank, 2)
	}
	// A row or a column of noughts, two rows or columns alike, or a row that is the sum of others.
	for rows := 2; rows <= 6; rows++ {
		for at := range rows {
			full := func() matrix { return d.matrix(rows, 1, func() api.Int { return plus(d.small(50), limb.Of(100)) }) }
			m := full()
			m[at] = noughts(rows)
			singular(t, m)
			m = full()
			for i := range m {
				m[i][at] = api.Int{}
			}
			singular(t, m)
			m = full()
			m[at] = m[(at+1)%rows]
			singular(t, m)
			m = full()
			for i := range m {
				m[i][at] = times(m[i][(at+1)%rows], limb.Of(-3))
			}
			singular(t, m)
		}
	}
}

// singular fails if New takes m, or refuses it for another error, but with few limbs for ErrWide.
func singular(t *testing.T, m matrix) {
	t.Helper()
	if f, _, err := bareiss.New(m.cells(), 32); f != nil || err != api.ErrSingular {
		t.Fatalf("%v: error %d", m, err)
	}
	if f, _, err := bareiss.New(m.cells(), 1); f != nil || err != api.ErrSingular && err != api.ErrWide {
		t.Fatalf("%v: error %d with 1 limb", m, err)
	}
}

// P14.5: rows in another order, and rows times numbers, leave each fraction.
func TestOrderIsNothing(t *testing.T) {
	d := dice(1409)
	solved := 0
	for range 300 {
		rows := 1 + d.below(9)
		draw := func() api.Int { return d.bits(1 + d.below(20)) }
		m, b := d.matrix(rows, 1+d.below(3), draw), d.side(rows, draw)
		f, _, err := bareiss.New(m.cells(), 32)
		order := d.shuffled(rows)
		turned, side := m.moved(order), matrix{b}.part([]int{0}, order)[0]
		scaled := make(matrix, rows)
		scaledSide := make([]api.Int, rows)
		for i, row := range turned {
			by := plus(d.small(4), limb.Of(5))
			if d.one(2) {
				by = opposite(by)
			}
			scaledSide[i] = times(side[i], by)
			for _, a := range row {
				scaled[i] = append(scaled[i], times(a, by))
			}
		}
		if err != api.OK {
			refused(t, turned, err)
			refused(t, scaled, err)
			continue
		}
		solved++
		s, err := f.Solve(b)
		if err != api.OK {
			t.Fatalf("%v: error %d", m, err)
		}
		alike(t, turned, side, s)
		alike(t, scaled, scaledSide, s)
	}
	if solved < 100 {
		t.Error(solved)
	}
}

// refused fails unless New has that error of m.
func refused(t *testing.T, m matrix, want api.Errno) {
	t.Helper()
	if f, _, err := bareiss.New(m.cells(), 32); f != nil || err != want {
		t.Fatalf("%v: error %d, not %d", m, err, want)
	}
}

// alike fails unless the solution of m and b is s, fraction by fraction.
func alike(t *testing.T, m matrix, b []api.Int, s api.Solution) {
	t.Helper()
	got, err := factored(t, m, 32).Solve(b)
	if err != api.OK || len(got.X) != len(s.X) {
		t.Fatalf("%v: error %d", m, err)
	}
	for j := range s.X {
		if !one(times(got.X[j], s.D), times(s.X[j], got.D)) {
			t.Fatalf("%v: X %s, D %s; X %s, D %s", m, words(s.X), words([]api.Int{s.D}), words(got.X), words([]api.Int{got.D}))
		}
	}
}

// The same rows in another order with one limb only: where both orders are solved the fractions are the same.
func TestOrderIsNothingWhereBothAreSolved(t *testing.T) {
	d := dice(1410)
	both := 0
	for range 2000 {
		rows := 2 + d.below(3)
		draw := func() api.Int { return d.bits(1 + d.below(14)) }
		m, b := d.matrix(rows, 1+d.below(3), draw), d.side(rows, draw)
		order := d.shuffled(rows)
		f, _, err := bareiss.New(m.cells(), 1)
		g, _, also := bareiss.New(m.moved(order).cells(), 1)
		if err != api.OK || also != api.OK {
			continue
		}
		s, err := f.Solve(b)
		_, also = g.Solve(matrix{b}.part([]int{0}, order)[0])
		if err != api.OK || also != api.OK {
			continue
		}
		both++
		alike(t, m.moved(order), matrix{b}.part([]int{0}, order)[0], s)
	}
	if both < 200 {
		t.Error(both)
	}
}
