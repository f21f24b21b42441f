package topo_test

import (
	"math/bits"
	"slices"
	"testing"

	"shunt/api"
	"shunt/flat"
)

// P10.4 speaks of the equations of chapters 11 and 12. They are laid here by the chapter's table, in whole numbers modulo a
// prime, in which a determinant that is 0 is 0, and another one hardly ever is.

const prime = 1<<61 - 1

// A part is a number modulo the prime.
type part uint64

func (a part) times(b part) part {
	high, low := bits.Mul64(uint64(a), uint64(b))
	return part(bits.Rem64(high, low, prime))
}

func (a part) plus(b part) part { return (a + b) % prime }

func (a part) minus() part { return (prime - a) % prime }

// inverse is 1 divided by a, which isn't 0.
func (a part) inverse() part {
	x := part(1)
	for e := uint64(prime - 2); e > 0; e >>= 1 {
		if e&1 == 1 {
			x = x.times(a)
		}
		a = a.times(a)
	}
	return x
}

// inPart is a number's value.
func inPart(x api.Num) part {
	a, ten := part(max(x.Mant, -x.Mant)), part(10)
	if x.Exp < 0 {
		ten = ten.inverse()
	}
	for range max(x.Exp, -x.Exp) {
		a = a.times(ten)
	}
	if x.Mant < 0 {
		return a.minus()
	}
	return a
}

// A matrix is the left side of a circuit's equations.
type matrix [][]part

// add puts a share into a place; the ground has neither a row nor an unknown.
func (m matrix) add(row, col int, x part) {
	if row >= 0 && col >= 0 {
		m[row][col] = m[row][col].plus(x)
	}
}

// across puts in a current of y times the voltage from c to d, which goes from a to b.
func (m matrix) across(a, b, c, d int, y part) {
	m.add(a, c, y)
	m.add(a, d, y.minus())
	m.add(b, c, y.minus())
	m.add(b, d, y)
}

// through puts in the branch j from a to b.
func (m matrix) through(a, b, j int) {
	m.add(a, j, 1)
	m.add(b, j, part(1).minus())
}

// voltage puts x times the voltage from a to b into the row j.
func (m matrix) voltage(j, a, b int, x part) {
	m.add(j, a, x)
	m.add(j, b, x.minus())
}

// stamp puts in what a device says; seg is its segment, if it has such, and y its Value divided by the step, in time.
func (m matrix) stamp(d api.Dev, branches []int, k, mode, seg int, y part) {
	x, j := inPart(d.Value), branches[k]
	var at [4]int
	for i, node := range d.Nodes {
		at[i] = node - 1
	}
	a, b, c, e := at[0], at[1], at[2], at[3]
	if j >= 0 {
		m.through(a, b, j)
	}
	switch d.Kind {
	case 'r':
		m.across(a, b, a, b, x.inverse())
	case 'g':
		m.across(a, b, c, e, x)
	case 'd', 's':
		m.across(a, b, a, b, inPart(d.Model.G[seg]))
	case 'f':
		m.add(a, branches[d.Ref], x)
		m.add(b, branches[d.Ref], x.minus())
	case 'c':
		m.add(j, j, 1)
		if mode == api.Tran {
			m.voltage(j, a, b, y.minus())
		}
	case 'v':
		m.voltage(j, a, b, 1)
	case 'l':
		m.voltage(j, a, b, 1)
		if mode == api.Tran {
			m.add(j, j, y.minus())
		}
	case 'e':
		m.voltage(j, a, b, 1)
		m.voltage(j, c, e, x.minus())
	case 'h':
		m.voltage(j, a, b, 1)
		m.add(j, branches[d.Ref], x.minus())
	case 't':
		m.add(c, j, x.minus())
		m.add(e, j, x)
		m.voltage(j, a, b, 1)
		m.voltage(j, c, e, x.minus())
	}
}

// equations are the left side of f's, in any segments.
func (d *dice) equations(f api.Flat, mode int) matrix {
	count, branches := flat.Unknowns(f)
	m := make(matrix, count)
	for i := range m {
		m[i] = make([]part, count)
	}
	for k, x := range f.Devs {
		y := inPart(x.Value).times(inPart(f.Step).inverse())
		if f.Method == api.Trap {
			y = y.times(2)
		}
		m.stamp(x, branches, k, mode, d.below(max(1, len(x.Model.G))), y)
	}
	return m
}

// singular says whether the determinant is 0.
func (m matrix) singular() bool {
	for k := range m {
		pivot := slices.IndexFunc(m[k:], func(row []part) bool { return row[k] != 0 })
		if pivot < 0 {
			return true
		}
		m[k], m[k+pivot] = m[k+pivot], m[k]
		for i := k + 1; i < len(m); i++ {
			by := m[i][k].times(m[k][k].inverse()).minus()
			for j := range m {
				m[i][j] = m[i][j].plus(m[k][j].times(by))
			}
		}
	}
	return false
}

// The matrix is that of the examples of chapters 11 and 12, and a determinant is what it is.
func TestTheEquationsAreThoseOfTheDocument(t *testing.T) {
	d := dice(1)
	milli := inPart(n(1, -3))
	got := d.equations(laid("r1 a b 1k / c1 b 0 1u / v1 a 0 5 / .step 1m"), api.Tran)
	want := matrix{
		{milli, milli.minus(), 0, 1},
		{milli.minus(), milli, 1, 0},
		{0, milli.minus(), 1, 0},
		{1, 0, 0, 0},
	}
	if !slices.EqualFunc(got, want, slices.Equal) {
		t.Error(got)
	}
	if (matrix{{1, 2}, {3, 4}}).singular() || !(matrix{{1, 2}, {2, 4}}).singular() || (matrix{{0, 1}, {1, 0}}).singular() || (matrix{}).singular() || !(matrix{{0}}).singular() {
		t.Error("singular")
	}
}

// P10.4: where a node floats, or a device closes a loop, the determinant is 0, whatever the segments are; and elsewhere it
// often isn't, so that not every circuit is one of these.
func TestFloatsAndLoopsAreSingular(t *testing.T) {
	d := dice(105)
	met, solved := map[api.Errno]int{}, 0
	for i := range 12000 {
		f := d.flat(24)
		if i%2 == 0 {
			f = d.tied()
		}
		mode := 1 + d.below(2)
		err := tell(f, mode).checked
		met[err]++
		switch singular := d.equations(f, mode).singular(); {
		case err != api.OK && !singular:
			t.Fatalf("%v in mode %d: error %d, but one solution", f, mode, err)
		case !singular:
			solved++
		}
	}
	enough(t, met, map[api.Errno]int{api.OK: 2000, api.ErrFloat: 2000, api.ErrLoop: 1000})
	if solved < 1500 {
		t.Error(solved, "have one solution")
	}
}

// Circuits with one solution that hang on each tie, or have other devices than sources beside one another: with a tie less,
// or a kind of loops more, P10.4 would not hold.
func TestEachTieIsNeeded(t *testing.T) {
	d := dice(1)
	for _, mode := range modes() {
		for _, lines := range []string{
			"r1 a b 1 / r2 b 0 1", "l1 a 0 1", "v1 a 0 1", "e1 a 0 b 0 1 / r1 b 0 1", "v1 a 0 1 / h1 b 0 v1 1", "t1 a 0 b 0 1 / r1 b 0 1", "t1 a 0 b 0 1 / r1 a 0 1",
			".model m d 1 2 3 / d1 a 0 m", ".model q s 1 2 3 / s1 a 0 a 0 q", "g1 a 0 a 0 1", "g1 a 0 b 0 1 / g2 b 0 a 0 1", "e1 a 0 b 0 1 / g1 b 0 a 0 1",
			"c1 a 0 1 / r1 a 0 1", "v1 a 0 1 / r1 a b 1 / v2 b 0 1", "v1 a 0 1 / e1 a 0 b 0 1 / f1 b 0 v1 1", "v1 a 0 1 / h1 a 0 v1 1", "v1 a 0 1 / t1 a 0 b 0 1 / r1 b 0 1", "l1 a b 1 / r1 b 0 1",
		} {
			f := laid(lines)
			tells(t, f, mode, "", "")
			if d.equations(f, mode).singular() {
				t.Errorf("%s in mode %d: no one solution", lines, mode)
			}
		}
	}
	f := laid("c1 a 0 1")
	tells(t, f, api.Tran, "", "")
	tells(t, f, api.Op, "a", "")
	if d.equations(f, api.Tran).singular() || !d.equations(f, api.Op).singular() {
		t.Error("c")
	}
	f = laid("v1 a 0 1 / l1 a 0 1")
	if d.equations(f, api.Tran).singular() || !d.equations(f, api.Op).singular() {
		t.Error("l")
	}
}
