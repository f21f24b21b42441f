package bareiss_test

import (
	"fmt"
	"strings"
	"testing"

	"shunt/api"
	"shunt/bareiss"
	"shunt/flat"
	"shunt/limb"
	"shunt/netlist"
	"shunt/sparse"
	"shunt/system"
)

// built are the system of a netlist's lines, parted by strokes with blanks around them, and its right side at step 3.
func built(t *testing.T, lines string, s api.Setting) (api.System, []api.Int) {
	t.Helper()
	c, at, err := netlist.Parse(strings.ReplaceAll(lines, " / ", "\n"))
	if err != api.OK {
		t.Fatalf("%s: line %d: error %d", lines, at, err)
	}
	f, err := flat.Flatten(c)
	if err != api.OK {
		t.Fatalf("%s: error %d", lines, err)
	}
	made, err := system.Build(f, s, make([]int, len(system.Bent(f))))
	if err != api.OK {
		t.Fatalf("%s: error %d", lines, err)
	}
	said, err := system.Sources(f, 3)
	if err != api.OK {
		t.Fatalf("%s: error %d", lines, err)
	}
	prev := make([]int64, len(made.Rows))
	for i := range prev {
		prev[i] = int64(i) * 12345679
	}
	b, err := system.Rhs(made, prev, said)
	if err != api.OK {
		t.Fatalf("%s: error %d", lines, err)
	}
	return made, b
}

func resting() api.Setting { return api.Setting{Mode: api.Op} }

func timed(method int) api.Setting {
	return api.Setting{Mode: api.Tran, Method: method, Step: api.Num{Mant: 1, Exp: -3}}
}

// rowsOfSystem are the rows' A.
func rowsOfSystem(s api.System) [][]api.Cell {
	var rows [][]api.Cell
	for _, row := range s.Rows {
		rows = append(rows, row.A)
	}
	return rows
}

// matrixOf are the rows with all noughts.
func matrixOf(rows [][]api.Cell) matrix {
	m := square(len(rows), func(row, col int) api.Int { return api.Int{} })
	for i, cells := range rows {
		for _, c := range cells {
			m[i][c.Col] = c.Val
		}
	}
	return m
}

// The voltages and currents of circuits that are known, as fractions of thousand-millionths.
func TestKnownCircuits(t *testing.T) {
	for _, x := range []struct {
		lines string
		want  []string // numerators and denominators
	}{
		{"v1 a 0 5 / r1 a b 1k / r2 b 0 2k", []string{"5000000000 1", "10000000000 3", "-5000000 3"}},
		{"v1 a 0 -4 / r1 a b 1k / r2 b 0 1k", []string{"-4000000000 1", "-2000000000 1", "2000000 1"}},
		{"v1 a 0 5 / r1 a b 1k / d1 b 0 dio / .model dio d 1u 0.7 100m", []string{"5000000000 1", "5000000000000 1001", "-5000000 1001"}},
		{"i1 0 a 2 / r1 a 0 3", []string{"6000000000 1"}},
	} {
		s, b := built(t, x.lines, resting())
		got, err := factored(t, matrixOf(rowsOfSystem(s)), 32).Solve(b)
		if err != api.OK || len(got.X) != len(x.want) {
			t.Fatalf("%s: %v, error %d", x.lines, got, err)
		}
		for j, text := range x.want {
			l := list(text)
			if !one(times(got.X[j], l[1]), times(l[0], got.D)) {
				t.Errorf("%s: unknown %d: %s / %s, not %s", x.lines, j, words(got.X[j:j+1]), words([]api.Int{got.D}), text)
			}
		}
	}
}

func TestCircuitsWithoutASolution(t *testing.T) {
	for _, x := range []struct {
		lines  string
		pivots int
	}{
		{"i1 a 0 1", 0},
		{"v1 a 0 1 / v2 a 0 1", 2},
		{"v1 a 0 5 / c1 a b 1u", 3},
		{"r1 a b 1", 1},
		{"r1 a b 1 / r2 a b -1 / r3 b 0 1", 1},
	} {
		s, _ := built(t, x.lines, resting())
		refuses(t, rowsOfSystem(s), 32, x.pivots, api.ErrSingular)
	}
}

func ladder(steps int) string {
	out := "v1 a0 0 1"
	for i := range steps {
		out += fmt.Sprintf(" / r%d a%d a%d 1.5k / c%d a%d 0 0.7u", i, i, i+1, i, i+1)
	}
	return out
}

const every = "v1 a 0 5 / r1 a b 1k / c1 b 0 1u / l1 b c 1m / r2 c 0 33 / i1 c 0 1 / e1 d 0 a b 2 / g1 c 0 a d 3 / f1 b 0 v1 2 / h1 e 0 v1 3 / r3 e d 7 / d1 a c dio / s1 b d a 0 sw / .model dio d 1u 0.7 100m / .model sw s 1 0 2"

// Systems that are built, at rest and in time, up to 46 rows: the solution holds, and the pivots are the best places.
func TestSystemsThatAreBuilt(t *testing.T) {
	for _, lines := range []string{"", "v1 a 0 5 / r1 a b 1k / r2 b 0 2k", ladder(5), ladder(22), every} {
		for _, set := range []api.Setting{resting(), timed(api.Euler), timed(api.Trap)} {
			s, b := built(t, lines, set)
			rows := rowsOfSystem(s)
			m := matrixOf(rows)
			f, n, err := bareiss.New(rows, 32)
			if err != api.OK || n != len(rows) {
				t.Fatalf("%s: New: %d pivots, error %d", short(lines), n, err)
			}
			got, err := f.Solve(b)
			if err != api.OK {
				t.Fatalf("%s: Solve: error %d", short(lines), err)
			}
			holds(t, m, b, got, 32)
			if n > 0 {
				detHolds(t, m, f, got.D)
			}
			pattern, err := sparse.Of(s)
			if err != api.OK {
				t.Fatal(err)
			}
			takenOnce(t, f, pattern)
		}
	}
}

// takenOnce fails unless the first pivot is the pattern's best place, and each row and each column is taken once.
func takenOnce(t *testing.T, f *bareiss.Factor, pattern [][]int) {
	t.Helper()
	rows, cols := f.Order()
	if row, col, there, _ := sparse.Best(pattern); there && (row != rows[0] || col != cols[0]) {
		t.Errorf("the first pivot at %d %d, not %d %d", rows[0], cols[0], row, col)
	}
	if len(left(len(pattern), rows)) != 0 || len(left(len(pattern), cols)) != 0 {
		t.Errorf("Order: %v, %v", rows, cols)
	}
}

// A thin matrix is factored in the order that its pattern says, where no number goes away: of numbers so long none does.
func TestOrderOfThePattern(t *testing.T) {
	d := dice(1413)
	for range 60 {
		count := 1 + d.below(10)
		m := d.matrix(count, 4, func() api.Int { return limb.Of(int64(3 + d.below(1<<30))) })
		for i := range m {
			m[i][i] = limb.Of(int64(5 + d.below(1<<30)))
		}
		var pattern [][]int
		for _, cells := range m.cells() {
			var cols []int
			for _, c := range cells {
				cols = append(cols, c.Col)
			}
			pattern = append(pattern, cols)
		}
		rows, cols, err := sparse.Order(pattern)
		if err != api.OK {
			t.Fatal(err)
		}
		f := factored(t, m, 32)
		if r, c := f.Order(); fmt.Sprint(r, c) != fmt.Sprint(rows, cols) {
			t.Errorf("%v: Order %v, %v, not %v, %v", m, r, c, rows, cols)
		}
	}
}
