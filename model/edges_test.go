package model_test

import (
	"strings"
	"testing"

	"shunt/api"
	"shunt/limb"
	"shunt/model"
)

func TestRights(t *testing.T) {
	for _, m := range rights() {
		right(t, m)
	}
}

func TestCounts(t *testing.T) {
	g, v := list(n(1, 0), n(2, 0), n(3, 0), n(4, 0)), list(n(1, 0), n(2, 0), n(3, 0))
	for count := 1; count <= api.MaxSegs; count++ {
		if c := model.Count(diode(g[:count], v[:count-1])); c != count {
			t.Errorf("a diode of %d segments has %d", count, c)
		}
	}
	if c := model.Count(toggle(n(0, 0), n(0, 0), n(0, 0))); c != 2 {
		t.Errorf("a switch has %d segments", c)
	}
}

func TestNames(t *testing.T) {
	const bytes = "abcdefghijklmnopqrstuvwxyz0123456789_"
	for i := range bytes {
		for count := 1; count <= api.MaxName; count++ {
			for _, m := range []api.Model{exampleDiode(), exampleSwitch()} {
				m.Name = strings.Repeat(bytes[i:i+1], count)
				right(t, m)
			}
		}
	}
	for _, name := range []string{"d", "0", "_", "a_9", "9z_", "abcdefghijklmnop", "qrstuvwxyz012345", "_______________6", bytes[:16], bytes[21:]} {
		m := exampleDiode()
		m.Name = name
		right(t, m)
	}
}

// A diode of one segment is a resistor, wherever u is.
func TestOneSegment(t *testing.T) {
	for _, g := range []api.Num{n(5, 0), n(0, 0), n(-5, 0)} {
		m := diode(list(g), nil)
		does(t, m, 0, whole(g.Mant), whole(0))
		for _, u := range near(exampleDiode()) {
			lies(t, m, 0, u, 0)
			finds(t, m, u, 0)
		}
		partless(t, m, 1, api.ErrSeg)
	}
}

func TestFourSegments(t *testing.T) {
	m := diode(list(n(1, -3), n(0, 0), n(-2, 0), n(5, -1)), list(n(-1, 0), n(5, -1), n(2, 0)))
	does(t, m, 0, ratio(1, 1000), whole(0))
	does(t, m, 1, whole(0), whole(-1000000))   // what the first says at -1 V
	does(t, m, 2, whole(-2), whole(999000000)) // -1000000 at 0.5 V
	does(t, m, 3, ratio(1, 2), whole(-4001000000))
	for i, u := range []int64{-2000000000, -1000000000, 0, 500000000, 1000000000, 2000000000, 3000000000} {
		finds(t, m, whole(u), i/2)
	}
	for k, want := range [][]int{{0, 0, 1, 1, 1, 1, 1}, {-1, 0, 0, 0, 1, 1, 1}, {-1, -1, -1, 0, 0, 0, 1}, {-1, -1, -1, -1, -1, 0, 0}} {
		for i, u := range []int64{-2000000000, -1000000000, 0, 500000000, 1000000000, 2000000000, 3000000000} {
			lies(t, m, k, whole(u), want[i])
		}
	}
}

// A switch's G may fall, be 0 or below it, and its own part is 0 in both segments.
func TestSwitches(t *testing.T) {
	for _, m := range []api.Model{
		exampleSwitch(), toggle(n(1, 0), n(1, -9), n(25, -1)), toggle(n(0, 0), n(-1, 0), n(25, -1)), toggle(n(-1, 0), n(0, 0), n(25, -1)),
	} {
		for k, g := range m.G {
			does(t, m, k, sameValue(g), whole(0))
		}
		lies(t, m, 0, whole(2499999999), 0)
		lies(t, m, 0, whole(2500000000), 0)
		lies(t, m, 0, whole(2500000001), 1)
		lies(t, m, 1, whole(2499999999), -1)
		lies(t, m, 1, whole(2500000000), 0)
		lies(t, m, 1, whole(2500000001), 0)
		finds(t, m, whole(-2500000001), 0)
		finds(t, m, whole(2500000000), 0)
		finds(t, m, whole(2500000001), 1)
	}
}

// Beside a knot by less than a unit.
func TestPartsOfAUnit(t *testing.T) {
	d := exampleDiode()
	for _, c := range []struct {
		u           api.Rat
		first, last int
	}{
		{ratio(1399999999, 2), 0, -1}, {ratio(1400000001, 2), 1, 0}, {ratio(2099999999, 3), 0, -1}, {ratio(2100000001, 3), 1, 0},
		{ratio(699999999999999999, 1000000000), 0, -1}, {ratio(700000000000000001, 1000000000), 1, 0}, {whole(699999999), 0, -1}, {whole(700000000), 0, 0},
	} {
		lies(t, d, 0, c.u, c.first)
		lies(t, d, 1, c.u, c.last)
		finds(t, d, c.u, c.first)
	}
	// A knot may lie between two units of the grid.
	fine := diode(list(n(1, 0), n(2, 0)), list(n(1, -18)))
	finds(t, fine, ratio(1, 1000000000), 0)
	finds(t, fine, ratio(1, 999999999), 1)
	finds(t, fine, ratio(1, 1000000001), 0)
	lies(t, fine, 1, ratio(1, 1000000001), -1)
	does(t, fine, 1, whole(2), ratio(-1, 1000000000))
}

// The longest fractions there are.
func TestLongFractions(t *testing.T) {
	long, d := filled(api.MaxScratch, 0xffffffff), exampleDiode()
	for _, c := range []struct {
		u api.Rat
		k int
	}{
		{api.Rat{Num: long, Den: limb.Of(1)}, 1}, {api.Rat{Num: minus(long), Den: limb.Of(1)}, 0}, {api.Rat{Num: limb.Of(1), Den: long}, 0},
		{api.Rat{Num: limb.Of(-1), Den: long}, 0}, {api.Rat{Num: long, Den: sure(limb.Sub(long, limb.Of(1)))}, 0},
	} {
		finds(t, d, c.u, c.k)
		lies(t, d, c.k, c.u, 0)
		lies(t, d, 1-c.k, c.u, 2*c.k-1)
	}
	// Short of 0.7 V, and beyond, by the least that the limbs can tell.
	den := filled(api.MaxScratch-1, 0xffffffff)
	at := times(den, limb.Of(700000000))
	below, above := sure(limb.Sub(at, limb.Of(1))), sure(limb.Add(at, limb.Of(1)))
	finds(t, d, api.Rat{Num: below, Den: den}, 0)
	finds(t, d, api.Rat{Num: above, Den: den}, 1)
	lies(t, d, 1, api.Rat{Num: below, Den: den}, -1)
	lies(t, d, 0, api.Rat{Num: above, Den: den}, 1)
}

// The greatest and the least numbers, in both lists.
func TestFarNumbers(t *testing.T) {
	const most = 999999999
	m := diode(list(n(-most, 9), n(most, 9), n(1, -18)), list(n(-most, 9), n(most, 9)))
	big := api.Rat{Num: times(limb.Of(most), ten(9)), Den: limb.Of(1)}
	does(t, m, 0, api.Rat{Num: minus(big.Num), Den: limb.Of(1)}, whole(0))
	// Twice the greatest G, the greatest knot and 10^9: 2 (10^9 - 1)^2 10^27.
	twice := times(limb.Of(2), times(times(limb.Of(most), limb.Of(most)), ten(27)))
	does(t, m, 1, big, api.Rat{Num: twice, Den: limb.Of(1)})
	// Thrice half of that, less 10^-18 of the greatest knot, which is whole: (10^9 - 1) 10^18 10^-18.
	thrice := times(limb.Of(3), times(times(limb.Of(most), limb.Of(most)), ten(27)))
	does(t, m, 2, api.Rat{Num: limb.Of(1), Den: ten(18)}, api.Rat{Num: sure(limb.Sub(thrice, limb.Of(most))), Den: limb.Of(1)})
	for i, u := range []api.Rat{
		{Num: minus(sure(limb.Add(times(big.Num, ten(9)), limb.Of(1)))), Den: limb.Of(1)}, {Num: minus(times(big.Num, ten(9))), Den: limb.Of(1)},
		whole(0), {Num: times(big.Num, ten(9)), Den: limb.Of(1)}, {Num: sure(limb.Add(times(big.Num, ten(9)), limb.Of(1))), Den: limb.Of(1)},
	} {
		finds(t, m, u, []int{0, 0, 1, 1, 2}[i])
	}
}
