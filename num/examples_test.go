package num_test

import (
	"testing"

	"shunt/api"
	"shunt/limb"
	"shunt/num"
)

// The chapter's table, row by row.

func TestExampleRead(t *testing.T) {
	for _, s := range []string{"4.7k", "4700", "004700.0", "47e2"} {
		reads(t, s, api.Num{Mant: 47, Exp: 2})
	}
	reads(t, "100n", api.Num{Mant: 1, Exp: -7})
	reads(t, "-1e-3", api.Num{Mant: -1, Exp: -3})
	reads(t, "-0", api.Num{})
	reads(t, "2meg", api.Num{Mant: 2, Exp: 6})
	reads(t, "1000000000", api.Num{Mant: 1, Exp: 9})
}

func TestExampleUnread(t *testing.T) {
	for _, s := range []string{"", ".", "1.", ".5", "+1", "1K", "1e", "1e123", "1 k"} {
		unread(t, s, api.ErrText)
	}
	for _, s := range []string{"1234567891", "1e-19", "1e10"} {
		unread(t, s, api.ErrNum)
	}
}

func TestExampleText(t *testing.T) {
	for _, c := range []struct {
		n    api.Num
		want string
	}{
		{api.Num{Mant: 47, Exp: 2}, "4700"}, {api.Num{Mant: 1, Exp: -7}, "100n"}, {api.Num{Mant: -1, Exp: -3}, "-1m"},
		{api.Num{Mant: 5, Exp: 9}, "5g"}, {api.Num{Mant: 7, Exp: -17}, "7e-17"}, {api.Num{Mant: 3, Exp: -15}, "3f"},
	} {
		if s, err := num.Text(c.n); s != c.want || err != api.OK {
			t.Errorf("Text(%v): %q with error %d", c.n, s, err)
		}
	}
}

func TestExampleValue(t *testing.T) {
	half := api.Rat{Num: limb.Of(1), Den: limb.Of(2)}
	if r, err := num.Value(api.Num{Mant: 5, Exp: -1}); !one(r, half) || err != api.OK {
		t.Error("Value({5 -1}):", r, err)
	}
}

func TestExampleGrid(t *testing.T) {
	for _, c := range []struct {
		n    api.Num
		want int64
	}{
		{api.Num{Mant: 15, Exp: -10}, 2}, {api.Num{Mant: 25, Exp: -10}, 2}, {api.Num{Mant: 1, Exp: 9}, 1000000000000000000},
	} {
		if g, err := num.Grid(c.n); g != c.want || err != api.OK {
			t.Errorf("Grid(%v): %d with error %d", c.n, g, err)
		}
	}
	if g, err := num.Grid(api.Num{Mant: 11, Exp: 8}); g != 0 || err != api.ErrRange {
		t.Error("Grid({11 8}):", g, err)
	}
}

func TestExampleCmp(t *testing.T) {
	if c, err := num.Cmp(api.Num{Mant: 1, Exp: 3}, api.Num{Mant: 999}); c != 1 || err != api.OK {
		t.Error("Cmp({1 3}, {999 0}):", c, err)
	}
}
