package num_test

import (
	"testing"

	"shunt/api"
	"shunt/limb"
	"shunt/num"
)

func TestValue(t *testing.T) {
	for _, n := range rights() {
		if r, err := num.Value(n); !one(r, times(limb.Of(n.Mant), n.Exp)) || err != api.OK {
			t.Errorf("Value(%v): %v with error %d", n, r, err)
		}
	}
}

func TestValueAtTheEdges(t *testing.T) {
	for _, c := range []struct {
		n        api.Num
		num, den string
	}{
		{api.Num{}, "0", "1"}, {api.Num{Mant: 1, Exp: -18}, "1", "1000000000000000000"},
		{api.Num{Mant: -999999999, Exp: -18}, "-999999999", "1000000000000000000"}, {api.Num{Mant: 5, Exp: -18}, "1", "200000000000000000"},
		{api.Num{Mant: 999999999, Exp: 9}, "999999999000000000", "1"}, {api.Num{Mant: -1, Exp: 9}, "-1000000000", "1"},
		{api.Num{Mant: -4, Exp: -1}, "-2", "5"}, {api.Num{Mant: 536870912, Exp: -18}, "2048", "3814697265625"},
	} {
		want := api.Rat{Num: sure(limb.Parse(c.num)), Den: sure(limb.Parse(c.den))}
		if r, err := num.Value(c.n); !one(r, want) || err != api.OK {
			t.Errorf("Value(%v): %v with error %d", c.n, r, err)
		}
	}
}

// grid is what Grid should answer, in words alone.
func grid(n api.Num) (int64, api.Errno) {
	g := n.Mant
	for range n.Exp + 9 {
		if g *= 10; g > 1000000000000000000 || g < -1000000000000000000 {
			return 0, api.ErrRange
		}
	}
	by := int64(1)
	for range -n.Exp - 9 {
		by *= 10
	}
	// The floor first, so that one rule does for both signs.
	floor, rest := g/by, g%by
	if rest < 0 {
		floor, rest = floor-1, rest+by
	}
	if 2*rest > by || 2*rest == by && floor%2 != 0 {
		floor++
	}
	return floor, api.OK
}

func TestGrid(t *testing.T) {
	d := dice(5)
	list := rights()
	for range 20000 {
		list = append(list, d.number())
	}
	for _, n := range list {
		want, wantErr := grid(n)
		if g, err := num.Grid(n); g != want || err != wantErr {
			t.Errorf("Grid(%v): %d with error %d, not %d with error %d", n, g, err, want, wantErr)
		}
	}
}

func TestGridAtTheEdges(t *testing.T) {
	for _, c := range []struct {
		n    api.Num
		want int64
	}{
		{api.Num{}, 0}, {api.Num{Mant: 1, Exp: -9}, 1}, {api.Num{Mant: -1, Exp: -9}, -1}, {api.Num{Mant: 1}, 1000000000},
		{api.Num{Mant: 5, Exp: -10}, 0}, {api.Num{Mant: -5, Exp: -10}, 0}, {api.Num{Mant: 15, Exp: -10}, 2}, {api.Num{Mant: -15, Exp: -10}, -2},
		{api.Num{Mant: -25, Exp: -10}, -2}, {api.Num{Mant: 35, Exp: -10}, 4}, {api.Num{Mant: -35, Exp: -10}, -4}, {api.Num{Mant: 999999995, Exp: -10}, 100000000},
		{api.Num{Mant: 51, Exp: -11}, 1}, {api.Num{Mant: 49, Exp: -11}, 0}, {api.Num{Mant: -51, Exp: -11}, -1}, {api.Num{Mant: 149, Exp: -11}, 1},
		{api.Num{Mant: 251, Exp: -11}, 3}, {api.Num{Mant: 1, Exp: -18}, 0}, {api.Num{Mant: -1, Exp: -18}, 0},
		{api.Num{Mant: 499999999, Exp: -18}, 0}, {api.Num{Mant: 500000001, Exp: -18}, 1}, {api.Num{Mant: -500000001, Exp: -18}, -1},
		{api.Num{Mant: 999999999, Exp: -18}, 1}, {api.Num{Mant: -1, Exp: 9}, -1000000000000000000}, {api.Num{Mant: 1, Exp: 9}, 1000000000000000000},
		{api.Num{Mant: 9, Exp: 8}, 900000000000000000}, {api.Num{Mant: 999999999}, 999999999000000000}, {api.Num{Mant: -999999999}, -999999999000000000},
		{api.Num{Mant: 99999999, Exp: 1}, 999999990000000000},
	} {
		if g, err := num.Grid(c.n); g != c.want || err != api.OK {
			t.Errorf("Grid(%v): %d with error %d, not %d", c.n, g, err, c.want)
		}
	}
	for _, n := range []api.Num{
		{Mant: 11, Exp: 8}, {Mant: -11, Exp: 8}, {Mant: 2, Exp: 9}, {Mant: -2, Exp: 9}, {Mant: 100000001, Exp: 1}, {Mant: -100000001, Exp: 1},
		{Mant: 999999999, Exp: 1}, {Mant: 999999999, Exp: 9}, {Mant: -999999999, Exp: 9}, {Mant: 18446744, Exp: 3}, {Mant: 18446745, Exp: 3},
		{Mant: 92233721, Exp: 2},
	} {
		if g, err := num.Grid(n); g != 0 || err != api.ErrRange {
			t.Errorf("Grid(%v): %d with error %d", n, g, err)
		}
	}
}
