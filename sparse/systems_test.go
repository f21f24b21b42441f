package sparse_test

import (
	"slices"
	"strings"
	"testing"

	"shunt/api"
	"shunt/limb"
	"shunt/sparse"
	"shunt/system"
)

// built is the system of a netlist's lines, with the segment 0 of each diode and switch.
func built(t *testing.T, lines string, s api.Setting) api.System {
	t.Helper()
	f := laid(lines)
	out, err := system.Build(f, s, make([]int, len(system.Bent(f))))
	if err != api.OK {
		t.Fatalf("%s: Build: error %d", lines, err)
	}
	return out
}

func rest() api.Setting { return api.Setting{Mode: api.Op} }

func timed(method int) api.Setting {
	return api.Setting{Mode: api.Tran, Method: method, Step: api.Num{Mant: 1, Exp: -3}}
}

// Systems that are built: the pattern is that of A, not of H and S.
func TestPatternsOfCircuits(t *testing.T) {
	for _, x := range []struct{ lines, rest, euler string }{
		{"", "", ""},
		{"v1 a 0 5 / r1 a b 1k / r2 b 0 2k", "0 1 2 / 0 1 / 0", "0 1 2 / 0 1 / 0"},
		{"i1 a 0 1", "-", "-"},
		{"v1 a 0 1 / v2 a 0 1", "1 2 / 0 / 0", "1 2 / 0 / 0"},
		{"v1 a 0 5 / r1 a b 1k / c1 b 0 1u", "0 1 2 / 0 1 3 / 0 / 3", "0 1 2 / 0 1 3 / 0 / 1 3"},
		{"v1 a 0 5 / l1 a b 1m / r1 b 0 1", "2 3 / 1 3 / 0 / 0 1", "2 3 / 1 3 / 0 / 0 1 3"},
		{"r1 a b 1 / r2 a b -1 / r3 b 0 1", "- / 1", "- / 1"},
		{"g1 a 0 b 0 2 / r1 b 0 1", "1 / 1", "1 / 1"},
		{"v1 a 0 5 / r1 a b 1k / d1 b 0 dio / .model dio d 1u 0.7 100m", "0 1 2 / 0 1 / 0", "0 1 2 / 0 1 / 0"},
	} {
		ofIs(t, built(t, x.lines, rest()), x.rest)
		ofIs(t, built(t, x.lines, timed(api.Euler)), x.euler)
	}
}

// Patterns of circuits are ordered and eliminated as others are.
func TestOrdersOfCircuits(t *testing.T) {
	ladder := "v1 a0 0 1"
	for i := range 22 {
		a, b, k := "a"+digits(i), "a"+digits(i+1), digits(i)
		ladder += " / r" + k + " " + a + " " + b + " 1k / c" + k + " " + b + " 0 1u"
	}
	every := "v1 a 0 5 / r1 a b 1k / c1 b 0 1u / l1 b c 1m / i1 c 0 1 / e1 d 0 a b 2 / g1 c 0 a d 3 / f1 b 0 v1 2 / h1 e 0 v1 3 / t1 e d c 0 2 / d1 a c dio / s1 b d a 0 sw / .model dio d 1u 0.7 100m / .model sw s 1 0 2"
	for _, lines := range []string{"v1 a 0 5 / r1 a b 1k / r2 b 0 2k", ladder, every} {
		for _, s := range []api.Setting{rest(), timed(api.Euler), timed(api.Trap)} {
			made := built(t, lines, s)
			p, err := sparse.Of(made)
			if err != api.OK || len(p) != len(made.Rows) {
				t.Fatalf("%s: Of: %s with error %d", short(lines), pieces(p), err)
			}
			for i, row := range made.Rows {
				if !slices.Equal(p[i], columns(row.A)) {
					t.Errorf("%s: row %d: %v, not %v", short(lines), i, p[i], columns(row.A))
				}
			}
			checks(t, p, api.OK)
			orderHolds(t, p)
			rows, cols := placesOf(p).order()
			orderIs(t, p, rows, cols)
			fillAsMeant(t, p, rows, cols)
			turnedHolds(t, p, rows, cols)
		}
	}
}

func digits(n int) string { return string([]byte{'0' + byte(n/10), '0' + byte(n%10)}) }

func columns(cells []api.Cell) []int {
	var l []int
	for _, c := range cells {
		l = append(l, c.Col)
	}
	return l
}

// Systems made by hand: of any pattern, whatever H, S, K and Mult are, and of however long numbers.
func TestPatternsOfSystemsMadeByHand(t *testing.T) {
	ofIs(t, api.System{}, "")
	ofIs(t, api.System{Rows: []api.Row{}}, "")
	ofIs(t, plain(1), "0")
	ofIs(t, plain(3), "0 / 1 / 2")
	s := plain(48)
	s.Rows[47].A[0].Val = limb.Of(-7)
	s.Rows[47].Mult = api.Int{Limbs: slices.Repeat([]uint32{1<<32 - 1}, 72)}
	s.Rows[46].A[0].Val = api.Int{Neg: true, Limbs: slices.Repeat([]uint32{1<<32 - 1}, 72)}
	ofIs(t, s, strings.ReplaceAll(rowText(upTo(48)), " ", " / "))
	ofIs(t, api.System{Rows: []api.Row{{Mult: one()}, {Mult: one(), S: []api.Cell{{Col: 63, Val: one()}}}}}, "- / -")
	d := dice(1308)
	for range 300 {
		p := d.some(12)
		ofIs(t, d.system(p), text(p))
	}
	ofIs(t, d.system(full(48)), text(full(48)))
}
