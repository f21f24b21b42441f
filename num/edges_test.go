package num_test

import (
	"strconv"
	"strings"
	"testing"

	"shunt/api"
	"shunt/num"
)

func TestEachLetter(t *testing.T) {
	for _, c := range []struct {
		letter string
		exp    int
	}{
		{"f", -15}, {"p", -12}, {"n", -9}, {"u", -6}, {"m", -3}, {"", 0}, {"k", 3}, {"meg", 6}, {"g", 9},
	} {
		reads(t, "3"+c.letter, api.Num{Mant: 3, Exp: c.exp})
		reads(t, "-3.5"+c.letter, api.Num{Mant: -35, Exp: c.exp - 1})
		reads(t, "0.07"+c.letter, api.Num{Mant: 7, Exp: c.exp - 2})
		reads(t, "0"+c.letter, api.Num{})
		reads(t, "-0.0"+c.letter, api.Num{})
	}
	reads(t, "0.001t", api.Num{Mant: 1, Exp: 9})
	reads(t, "-0.999999999t", api.Num{Mant: -999999999, Exp: 3})
	reads(t, "0t", api.Num{})
}

func TestEachExponent(t *testing.T) {
	for e := -99; e <= 99; e++ {
		size := strconv.Itoa(max(e, -e))
		for _, digits := range []string{size, "0" + size} {
			if len(digits) > 2 {
				continue
			}
			asSaid(t, "1e-"+digits)
			asSaid(t, "-25e"+digits)
			asSaid(t, "999999999e+"+digits)
			asSaid(t, "0.000000001e"+digits)
			asSaid(t, "1000000000e-"+digits)
			for _, zero := range []string{"0e", "-0e+", "00.00e-"} {
				reads(t, zero+digits, api.Num{})
			}
		}
	}
	for _, s := range []string{"7e3", "7e+3", "7e03", "7e+03", "7000e0", "7000e-0", "7000e+00", "70000e-1", "70000e-01"} {
		reads(t, s, api.Num{Mant: 7, Exp: 3})
	}
	for e := -18; e <= 9; e++ {
		reads(t, "7e"+strconv.Itoa(e), api.Num{Mant: 7, Exp: e})
	}
}

func TestNoughts(t *testing.T) {
	for _, s := range []string{"1.5", "01.5", "0001.5", "1.50", "1.5000", "0001.5000", "00000000001.50000000000"} {
		reads(t, s, api.Num{Mant: 15, Exp: -1})
		reads(t, "-"+s+"k", api.Num{Mant: -15, Exp: 2})
		reads(t, s+"e-17", api.Num{Mant: 15, Exp: -18})
	}
	for _, s := range []string{"100", "00100", "100.0", "00100.000", "0.1k", "0.10k", "000.1000k", "0.001e05", "10000000e-5"} {
		reads(t, s, api.Num{Mant: 1, Exp: 2})
	}
	for _, s := range []string{"0", "00", "-0", "-00000", "0.0", "-0.0", "000.000", "0meg", "-0.0f", "0e99", "0e-99", "0t"} {
		reads(t, s, api.Num{})
	}
	unread(t, "1000000001e-1", api.ErrNum) // noughts between digits are digits
}

func TestBytesOfATextAtTheBound(t *testing.T) {
	for _, c := range []struct {
		head, tail string
		n          api.Num
	}{
		{"", "1", api.Num{Mant: 1}}, {"-", "1", api.Num{Mant: -1}}, {"", "0", api.Num{}}, {"-", "0", api.Num{}},
		{"1.", "", api.Num{Mant: 1}}, {"-4.7", "k", api.Num{Mant: -47, Exp: 2}}, {"2.", "meg", api.Num{Mant: 2, Exp: 6}},
		{"", ".5", api.Num{Mant: 5, Exp: -1}}, {"3.", "e-18", api.Num{Mant: 3, Exp: -18}}, {"", "999999999e+09", api.Num{Mant: 999999999, Exp: 9}},
	} {
		noughts := strings.Repeat("0", 32-len(c.head)-len(c.tail))
		reads(t, c.head+noughts+c.tail, c.n)
		reads(t, c.head+noughts[1:]+c.tail, c.n)
		unread(t, c.head+noughts+"0"+c.tail, api.ErrText)
		unread(t, c.head+strings.Repeat(noughts, 3000)+c.tail, api.ErrText)
	}
}

// What is far too great or too small by its digits may be brought back by its power.
func TestFarAndBack(t *testing.T) {
	noughts := func(n int) string { return strings.Repeat("0", n) }
	reads(t, "1"+noughts(27)+"e-27", api.Num{Mant: 1})
	reads(t, "-1"+noughts(26)+"e-44", api.Num{Mant: -1, Exp: -18})
	reads(t, "1"+noughts(24)+"f", api.Num{Mant: 1, Exp: 9})
	reads(t, "999999999"+noughts(21)+"p", api.Num{Mant: 999999999, Exp: 9})
	reads(t, "0."+noughts(25)+"1e26", api.Num{Mant: 1})
	reads(t, "0."+noughts(26)+"1e36", api.Num{Mant: 1, Exp: 9})
	reads(t, "0."+noughts(25)+"1t", api.Num{Mant: 1, Exp: -14})
	unread(t, "1"+noughts(25)+"f", api.ErrNum)
	unread(t, "0."+noughts(26)+"1e37", api.ErrNum)
	unread(t, "-1"+noughts(26)+"e-45", api.ErrNum)
}

func TestText(t *testing.T) {
	for e, tail := range map[int]string{
		-18: "e-18", -17: "e-17", -16: "e-16", -15: "f", -14: "0f", -13: "00f", -12: "p", -11: "0p", -10: "00p", -9: "n", -8: "0n", -7: "00n",
		-6: "u", -5: "0u", -4: "00u", -3: "m", -2: "0m", -1: "00m", 0: "", 1: "0", 2: "00", 3: "k", 4: "0k", 5: "00k", 6: "meg", 7: "0meg",
		8: "00meg", 9: "g",
	} {
		for _, m := range mants() {
			n := api.Num{Mant: m, Exp: e}
			if s, err := num.Text(n); s != strconv.FormatInt(m, 10)+tail || err != api.OK {
				t.Errorf("Text(%v): %q with error %d", n, s, err)
			}
		}
	}
	if s, err := num.Text(api.Num{}); s != "0" || err != api.OK {
		t.Errorf("Text of 0: %q with error %d", s, err)
	}
}
