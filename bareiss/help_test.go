package bareiss_test

import (
	"fmt"
	"slices"
	"strings"
	"testing"

	"shunt/api"
	"shunt/bareiss"
	"shunt/limb"
)

// A matrix is one with all its noughts.
type matrix [][]api.Int

// whole is the number of a text: digits, or 2^ and digits, either with a - ahead.
func whole(text string) api.Int {
	if bare, minus := strings.CutPrefix(text, "-2^"); minus {
		return opposite(whole("2^" + bare))
	}
	if bare, power := strings.CutPrefix(text, "2^"); power {
		n := 0
		fmt.Sscan(bare, &n)
		return twoTo(n)
	}
	a, err := limb.Parse(text)
	if err != api.OK {
		panic(text)
	}
	return a
}

// list are the numbers of a text.
func list(text string) []api.Int {
	var l []api.Int
	for _, word := range strings.Fields(text) {
		l = append(l, whole(word))
	}
	return l
}

// of is the matrix of a text: its rows parted by strokes; none of a text without bytes.
func of(text string) matrix {
	var m matrix
	if text == "" {
		return m
	}
	for _, row := range strings.Split(text, "/") {
		m = append(m, list(row))
	}
	return m
}

// cells are the matrix's rows as they are handed in.
func (m matrix) cells() [][]api.Cell {
	rows := make([][]api.Cell, len(m))
	for i, row := range m {
		for col, a := range row {
			if !nought(a) {
				rows[i] = append(rows[i], api.Cell{Col: col, Val: a})
			}
		}
	}
	return rows
}

func words(l []api.Int) string {
	var out []string
	for _, a := range l {
		text, err := limb.Text(a)
		if err != api.OK {
			text = fmt.Sprint("(not right: ", len(a.Limbs), " limbs)")
		}
		out = append(out, text)
	}
	return strings.Join(out, " ")
}

func (m matrix) String() string {
	var out []string
	for _, row := range m {
		out = append(out, words(row))
	}
	return short(strings.Join(out, " / "))
}

// short is what is told in a failure, cut where it is too long.
func short(text string) string {
	if len(text) > 900 {
		return text[:900] + ".."
	}
	return text
}

func nought(a api.Int) bool    { return len(a.Limbs) == 0 }
func one(a, b api.Int) bool    { return a.Neg == b.Neg && slices.Equal(a.Limbs, b.Limbs) }
func same(a, b []api.Int) bool { return slices.EqualFunc(a, b, one) }

// told is the answer of a call of layer 1 that refuses nothing here.
func told(a api.Int, err api.Errno) api.Int {
	if err != api.OK {
		panic(err)
	}
	return a
}

func plus(a, b api.Int) api.Int  { return told(limb.Add(a, b)) }
func minus(a, b api.Int) api.Int { return told(limb.Sub(a, b)) }
func times(a, b api.Int) api.Int { return told(limb.Mul(a, b)) }
func opposite(a api.Int) api.Int { return told(limb.Sub(api.Int{}, a)) }
func size(a api.Int) api.Int     { return api.Int{Limbs: a.Limbs} }
func signed(a, by api.Int) api.Int {
	return api.Int{Neg: a.Neg != by.Neg && !nought(a), Limbs: a.Limbs}
}

// twoTo is 2 to the power n.
func twoTo(n int) api.Int {
	a := api.Int{Limbs: make([]uint32, n/32+1)}
	a.Limbs[n/32] = 1 << (n % 32)
	return a
}

// most is the greatest number of so many limbs.
func most(limbs int) api.Int { return api.Int{Limbs: slices.Repeat([]uint32{1<<32 - 1}, limbs)} }

// dot is the sum of the products.
func dot(a, b []api.Int) api.Int {
	var sum api.Int
	for i := range a {
		sum = plus(sum, times(a[i], b[i]))
	}
	return sum
}

// by is the product of two matrices.
func (m matrix) by(n matrix) matrix {
	out := make(matrix, len(m))
	for i, row := range m {
		for col := range n[0] {
			out[i] = append(out[i], dot(row, n.column(col)))
		}
	}
	return out
}

func (m matrix) column(col int) []api.Int {
	var l []api.Int
	for _, row := range m {
		l = append(l, row[col])
	}
	return l
}

// square is the matrix of so many rows whose numbers f tells.
func square(count int, f func(row, col int) api.Int) matrix {
	m := make(matrix, count)
	for i := range m {
		for j := range count {
			m[i] = append(m[i], f(i, j))
		}
	}
	return m
}

// diagonal has these numbers on it, and noughts else.
func diagonal(l ...api.Int) matrix {
	return square(len(l), func(row, col int) api.Int {
		if row != col {
			return api.Int{}
		}
		return l[row]
	})
}

// unit has so many ones on the diagonal.
func unit(count int) matrix { return diagonal(slices.Repeat([]api.Int{limb.Of(1)}, count)...) }

// noughts are so many.
func noughts(count int) []api.Int { return make([]api.Int, count) }

// factored fails unless New takes the matrix.
func factored(t *testing.T, m matrix, limbs int) *bareiss.Factor {
	t.Helper()
	f, pivots, err := bareiss.New(m.cells(), limbs)
	if err != api.OK || f == nil || pivots != len(m) {
		t.Fatalf("%v: New with %d limbs: %t, %d pivots, error %d", m, limbs, f != nil, pivots, err)
	}
	return f
}

// refuses fails unless New answers just that of the rows, and no Factor.
func refuses(t *testing.T, rows [][]api.Cell, limbs, pivots int, want api.Errno) {
	t.Helper()
	if f, n, err := bareiss.New(rows, limbs); f != nil || n != pivots || err != want {
		t.Errorf("%s: New with %d limbs: %t, %d pivots, error %d, not error %d behind %d", short(fmt.Sprint(rows)), limbs, f != nil, n, err, want, pivots)
	}
}

// solves fails unless Solve answers just these X and this D.
func solves(t *testing.T, f *bareiss.Factor, b, x []api.Int, d api.Int) {
	t.Helper()
	got, err := f.Solve(b)
	if err != api.OK || !same(got.X, x) || !one(got.D, d) {
		t.Errorf("Solve(%s): X %s, D %s, error %d, not X %s, D %s", short(words(b)), short(words(got.X)), words([]api.Int{got.D}), err, short(words(x)), words([]api.Int{d}))
	}
}

// refusesSide fails unless Solve answers that error, and nothing else.
func refusesSide(t *testing.T, f *bareiss.Factor, b []api.Int, want api.Errno) {
	t.Helper()
	if got, err := f.Solve(b); err != want || len(got.X) != 0 || got.D.Neg || !nought(got.D) {
		t.Errorf("Solve(%s): X %s, D %s, error %d, not error %d", short(words(b[:min(len(b), 60)])), short(words(got.X)), words([]api.Int{got.D}), err, want)
	}
}

// factorIs fails unless the Factor tells just these places, pivots and this determinant.
func factorIs(t *testing.T, f *bareiss.Factor, rows, cols []int, pivots []api.Int, det api.Int) {
	t.Helper()
	r, c := f.Order()
	if !slices.Equal(r, rows) || !slices.Equal(c, cols) {
		t.Errorf("Order: %v, %v, not %v, %v", r, c, rows, cols)
	}
	if got := f.Pivots(); !same(got, pivots) {
		t.Errorf("Pivots: %s, not %s", short(words(got)), short(words(pivots)))
	}
	if got := f.Det(); !one(got, det) {
		t.Errorf("Det: %s, not %s", words([]api.Int{got}), words([]api.Int{det}))
	}
}

// upTo are the numbers from 0 on, so many.
func upTo(count int) []int {
	var l []int
	for i := range count {
		l = append(l, i)
	}
	return l
}
