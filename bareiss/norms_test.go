package bareiss_test

import (
	"testing"

	"shunt/api"
	"shunt/bareiss"
	"shunt/limb"
)

// P14.4: where the product of the rows' norms, of the matrix with its right side, is below 2 to the power 32 times limbs,
// nothing is wide. The tests hold the squares against each other: so no root is rounded.

// square of a row's norm, 1 at least.
func normSquare(row []api.Int, b api.Int) api.Int {
	sum := plus(dot(row, row), times(b, b))
	if nought(sum) {
		return limb.Of(1)
	}
	return sum
}

// within says whether the product of all rows' norms is below the bound.
func within(m matrix, b []api.Int, limbs int) bool {
	product := limb.Of(1)
	for i, row := range m {
		var err api.Errno
		if product, err = limb.Mul(product, normSquare(row, b[i])); err != api.OK {
			return false
		}
	}
	return len(product.Limbs) <= 2*limbs
}

// notWide fails if New or Solve has anything else than OK, or ErrSingular, of m and b.
func notWide(t *testing.T, m matrix, b []api.Int, limbs int) (solved bool) {
	t.Helper()
	if !within(m, b, limbs) {
		t.Fatalf("%v, %s: not within %d limbs", m, short(words(b)), limbs)
	}
	f, _, err := bareiss.New(m.cells(), limbs)
	if err == api.ErrSingular {
		return false
	}
	if err != api.OK {
		t.Fatalf("%v: New with %d limbs: error %d", m, limbs, err)
	}
	s, err := f.Solve(b)
	if err != api.OK {
		t.Fatalf("%v, %s: Solve with %d limbs: error %d", m, short(words(b)), limbs, err)
	}
	holds(t, m, b, s, limbs)
	return true
}

// grow makes the number at a place as great as it may be for all to be within, bit by bit from the greatest on.
func grow(at *api.Int, m matrix, b []api.Int, limbs int) {
	*at = api.Int{}
	for bit := 32*limbs - 1; bit >= 0; bit-- {
		was := *at
		*at = plus(was, twoTo(bit))
		if !within(m, b, limbs) {
			*at = was
		}
	}
}

// within draws a matrix and a side, of so many rows, that are within the limbs.
func (d *dice) within(rows, limbs int) (matrix, []api.Int) {
	for bits := 32 * limbs; ; bits-- {
		draw := func() api.Int { return d.bits(max(bits/rows, 1) + d.below(2)) }
		parts := 1 + d.below(1+rows/3)
		m, b := d.matrix(rows, parts, draw), d.side(rows, draw)
		if d.one(4) {
			b = noughts(rows)
		}
		if within(m, b, limbs) {
			return m, b
		}
	}
}

func TestNormsJustWithin(t *testing.T) {
	d := dice(1411)
	solved := 0
	for round := range 300 {
		limbs := []int{1, 1, 2, 3, 7, 32}[round%6]
		rows := 1 + d.below(6)
		m, b := d.within(rows, limbs)
		at := &b[d.below(rows)]
		if d.one(3) {
			at = &m[d.below(rows)][d.below(rows)]
		}
		grow(at, m, b, limbs)
		if notWide(t, m, b, limbs) {
			solved++
		}
		*at = plus(*at, limb.Of(1))
		if within(m, b, limbs) {
			t.Fatalf("%v, %s: not just within %d limbs", m, words(b), limbs)
		}
	}
	if solved < 150 {
		t.Error(solved)
	}
}

func TestNormsOfManyRowsJustWithin(t *testing.T) {
	d := dice(1412)
	solved := 0
	count := func(is bool) {
		if is {
			solved++
		}
	}
	for _, limbs := range []int{4, 12, 32} {
		for _, rows := range []int{12, 24, 48} {
			m := unit(rows)
			b := noughts(rows)
			for k := 0; k < rows; k++ {
				row, col := d.below(rows), d.below(rows)
				was := m[row][col]
				m[row][col] = d.bits(1 + 8*limbs/rows)
				if !within(m, b, limbs) {
					m[row][col] = was
				}
			}
			grow(&b[d.below(rows)], m, b, limbs)
			count(notWide(t, m, b, limbs))
			b = noughts(rows)
			grow(&m[d.below(rows)][d.below(rows)], m, b, limbs)
			count(notWide(t, m, b, limbs))
		}
	}
	if solved < 9 {
		t.Error(solved)
	}
}

// Rows that stand upright on one another: their determinant is the product of their norms, with nothing to spare.
func TestNormsThatAreReached(t *testing.T) {
	for _, x := range []struct {
		text string
		wide bool
	}{
		{"65535 362 / -362 65535", false}, // 4294967269
		{"65535 363 / -363 65535", true},
		{"46340 46340 / 46340 -46340", false}, // 4294791200
		{"46341 46341 / 46341 -46341", true},
		{"128 128 128 128 / 128 -128 128 -128 / 128 128 -128 -128 / 128 -128 -128 128", true}, // 2^32
		{"127 127 127 127 / 127 -127 127 -127 / 127 127 -127 -127 / 127 -127 -127 127", false},
		{"4294967295", false},
		{"65535 0 / 0 65537", false},
	} {
		m := of(x.text)
		if within(m, noughts(len(m)), 1) == x.wide {
			t.Errorf("%v: within", m)
		}
		if x.wide {
			f, _, err := bareiss.New(m.cells(), 1)
			if f != nil || err != api.ErrWide {
				t.Errorf("%v: error %d", m, err)
			}
			continue
		}
		notWide(t, m, noughts(len(m)), 1)
	}
	for limbs := 1; limbs <= 32; limbs++ {
		b := noughts(3)
		b[limbs%3] = most(limbs)
		notWide(t, unit(3), b, limbs)
	}
}
