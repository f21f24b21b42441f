package pwl_test

import (
	"slices"
	"strconv"
	"testing"

	"shunt/api"
	"shunt/limb"
)

// none are no ask's sources of a circuit with so many devices.
func none(count int) []int64 { return make([]int64, count) }

// node is a circuit of one node, of which a current is what it is times the value of the one device.
func node(value string) api.Flat { return hand("0 a", "r r1 1 0 "+value) }

// P16.4: unknowns, and currents, just below, at and just above a half.
func TestHalves(t *testing.T) {
	f := node("1")
	for _, x := range []struct{ solution, want string }{
		{"1 / 2", "0"}, {"3 / 2", "2"}, {"5 / 2", "2"}, {"-1 / 2", "0"}, {"-3 / 2", "-2"}, {"-5 / 2", "-2"}, {"7 / 2", "4"},
		{"0 / 1", "0"}, {"0 / 9", "0"}, {"7 / 1", "7"}, {"-7 / 1", "-7"}, {"7 / 7", "1"}, {"1 / 3", "0"}, {"2 / 3", "1"}, {"-1 / 3", "0"}, {"-2 / 3", "-1"},
		{"4 / 3", "1"}, {"5 / 3", "2"}, {"1 / 4", "0"}, {"3 / 4", "1"}, {"5 / 4", "1"}, {"7 / 4", "2"}, {"-5 / 4", "-1"}, {"-7 / 4", "-2"},
		{"6 / 4", "2"}, {"10 / 4", "2"}, {"49 / 98", "0"}, {"147 / 98", "2"},
		{"499999999 / 1000000000", "0"}, {"500000000 / 1000000000", "0"}, {"500000001 / 1000000000", "1"},
		{"1499999999 / 1000000000", "1"}, {"1500000000 / 1000000000", "2"}, {"1500000001 / 1000000000", "2"},
		{"2499999999 / 1000000000", "2"}, {"2500000000 / 1000000000", "2"}, {"2500000001 / 1000000000", "3"},
		{"-500000001 / 1000000000", "-1"}, {"-1499999999 / 1000000000", "-1"}, {"-2500000001 / 1000000000", "-3"},
		{"1 / 2^2303", "0"}, {"2^2303 / 2^2303", "1"}, {"2^2302 / 2^2303", "0"}, {"-1 / 2^32", "0"}, {"2^31 / 2^32", "0"}, {"2147483649 / 2^32", "1"},
		{"6442450944 / 2^32", "2"}, {"6442450943 / 2^32", "1"},
	} {
		reports(t, f, nil, solution(x.solution), none(1), x.want, x.want)
	}
}

// The ends of the grid, of X and of I: what is rounded to them is on it, what is rounded to one more isn't.
func TestEndsOfTheGrid(t *testing.T) {
	f := node("1")
	for _, sign := range []string{"", "-"} {
		for _, text := range []string{"1000000000000000000 / 1", "2000000000000000001 / 2", "2000000000000000000 / 2", "3000000000000000001 / 3", "2999999999999999999 / 3", "4000000000000000001 / 4"} {
			reports(t, f, nil, solution(sign+text), none(1), sign+"1000000000000000000", sign+"1000000000000000000")
		}
		reports(t, f, nil, solution(sign+"1999999999999999999 / 2"), none(1), sign+"1000000000000000000", sign+"1000000000000000000")
		reports(t, f, nil, solution(sign+"1999999999999999997 / 2"), none(1), sign+"999999999999999998", sign+"999999999999999998")
		for _, text := range []string{
			"1000000000000000001 / 1", "2000000000000000003 / 2", "3000000000000000002 / 3", "4000000000000000003 / 4", "1152921504606846975 / 1", "1152921504606846976 / 1",
			"1152921504606846977 / 1", "2^61 / 1", "2^62 / 1", "2^63 / 1", "2^64 / 1", "2^64 / 2", "2^100 / 7", "2^2303 / 1", "2^2303 / 2^2200", "9223372036854775807 / 1", "18446744073709551616 / 3",
		} {
			x := solution(text)
			x.X[0].Neg = sign == "-"
			refusesReport(t, f, nil, x, none(1), api.ErrRange)
			refusesReport(t, node("1000000"), nil, x, none(1), api.ErrRange)
		}
		// A current alone that isn't on it.
		reports(t, node("0.5"), nil, solution(sign+"500000000000000000 / 1"), none(1), sign+"500000000000000000", sign+"1000000000000000000")
		reports(t, node("0.5"), nil, solution(sign+"2000000000000000001 / 4"), none(1), sign+"500000000000000000", sign+"1000000000000000000")
		for _, text := range []string{"500000000000000001 / 1", "1000000000000000001 / 2", "4000000000000000003 / 8", "1000000000000000000 / 1"} {
			refusesReport(t, node("0.5"), nil, solution(sign+text), none(1), api.ErrRange)
		}
		refusesReport(t, node("1p"), nil, solution(sign+"1000001 / 1"), none(1), api.ErrRange)
		refusesReport(t, hand("0 a", "r r1 1 0 1", "r r2 0 1 0.000001p"), nil, solution(sign+"2 / 1"), none(2), api.ErrRange)
	}
}

// A current is rounded of the exact unknowns, not of what is reported of them.
func TestCurrentsAreRoundedOnce(t *testing.T) {
	f := hand("0 a b", "r r1 1 2 1", "r r2 1 2 1m", "g g1 0 0 1 2 1k", "d d1 2 1 m d 2 1 3", "s s1 2 1 0 0 q s 5 1 7")
	for _, x := range []struct{ solution, wantX, wantI string }{
		{"1 -1 / 4", "0 0", "0 500 500 -1 -2"},
		{"1 -1 / 3", "0 0", "1 667 667 -1 -3"},
		{"3 -3 / 10", "0 0", "1 600 600 -1 -3"},
		{"7 1 / 4", "2 0", "2 1500 1500 -3 -8"},
		{"9 -9 / 18", "0 0", "1 1000 1000 -2 -5"},
	} {
		reports(t, f, []int{0, 0}, solution(x.solution), none(5), x.wantX, x.wantI)
	}
	reports(t, f, []int{1, 1}, solution("1 -1 / 4"), none(5), "0 0", "0 500 500 -1000000002 -4")
	// The current of a diode is one sum: neither of its shares is rounded by itself.
	g := hand("0 a", "d d1 1 0 m d 0.5 1n 0.25")
	reports(t, g, []int{1}, solution("0 / 1"), none(1), "0", "0")
	reports(t, g, []int{1}, solution("1 / 1"), none(1), "1", "0")
	reports(t, g, []int{1}, solution("1000000001 / 1000000000"), none(1), "1", "1")
	reports(t, g, []int{1}, solution("999999999 / 1000000000"), none(1), "1", "0")
	reports(t, g, []int{1}, solution("5 / 1"), none(1), "5", "2")
	reports(t, g, []int{1}, solution("-3 / 1"), none(1), "-3", "0")
	reports(t, g, []int{1}, solution("-4 / 1"), none(1), "-4", "-1")
}

// alike are so many limbs that are all the same.
func alike(limb uint32, count int) api.Int {
	return api.Int{Limbs: slices.Repeat([]uint32{limb}, count)}
}

func opposite(a api.Int) api.Int {
	return api.Int{Neg: !a.Neg && len(a.Limbs) > 0, Limbs: slices.Clone(a.Limbs)}
}

// Solutions whose numbers are as long as may be, so that what is reckoned with them is longer.
func TestLongSolutions(t *testing.T) {
	all := alike(1<<32-1, 72)
	f := hand("0 a b", "r r1 1 2 1", "r r2 2 1 3", "r r3 1 0 2")
	for _, x := range []struct {
		a, b, d      api.Int
		wantX, wantI string
	}{
		{all, opposite(all), alike(1, 72), "4294967295 -4294967295", "8589934590 -2863311530 2147483648"},
		{all, opposite(all), alike(2, 72), "2147483648 -2147483648", "4294967295 -1431655765 1073741824"},
		{opposite(all), all, alike(3, 72), "-1431655765 1431655765", "-2863311530 954437177 -715827882"},
		{opposite(all), api.Int{}, alike(1<<31, 72), "-2 0", "-2 1 -1"},
		{all, all, all, "1 1", "0 0 0"},
		{all, opposite(all), all, "1 -1", "2 -1 0"},
		{limb.Of(1), limb.Of(-1), all, "0 0", "0 0 0"},
	} {
		reports(t, f, nil, api.Solution{X: []api.Int{x.a, x.b}, D: x.d}, none(3), x.wantX, x.wantI)
	}
	refusesReport(t, f, nil, api.Solution{X: []api.Int{all, {}}, D: limb.Of(1)}, none(3), api.ErrRange)
	refusesReport(t, f, nil, api.Solution{X: []api.Int{all, {}}, D: alike(1<<31, 69)}, none(3), api.ErrRange)
}

// product is a times b, where layer 1 has it.
func product(t *testing.T, a, b api.Int) api.Int {
	t.Helper()
	p, err := limb.Mul(a, b)
	if err != api.OK {
		t.Fatal(err)
	}
	return p
}

// Currents of just so many halves, and such beside them by as little as may be, in numbers that are as long as may be.
func TestLongCurrents(t *testing.T) {
	for exp, times := range map[int]int64{-9: 1000000000, -18: 1000000000000000000} {
		f := node("1")
		f.Devs[0].Value = n(1, exp)
		for _, share := range []api.Int{alike(3, 70), alike(0x1234567, 68), alike(1<<31-1, 69), alike(7, 2)} {
			d := product(t, product(t, limb.Of(times), limb.Of(2)), share)
			for _, halves := range []int64{1, 3, 5, 7, 101, 99999999} {
				just := product(t, limb.Of(halves), share)
				even := (halves + 1) / 4 * 2
				besideHalves(t, f, just, d, (halves-1)/2, even, (halves+1)/2)
			}
		}
	}
}

// besideHalves tells X that is one less than just, just, and one more; and their opposites.
func besideHalves(t *testing.T, f api.Flat, just, d api.Int, below, even, above int64) {
	t.Helper()
	for by, want := range []int64{below, even, above} {
		x, err := limb.Add(just, limb.Of(int64(by-1)))
		if err != api.OK {
			t.Fatal(err)
		}
		reports(t, f, nil, api.Solution{X: []api.Int{x}, D: d}, none(1), "0", strconv.FormatInt(want, 10))
		reports(t, f, nil, api.Solution{X: []api.Int{opposite(x)}, D: d}, none(1), "0", strconv.FormatInt(-want, 10))
	}
}
