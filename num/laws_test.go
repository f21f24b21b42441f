package num_test

import (
	"cmp"
	"slices"
	"strings"
	"testing"

	"shunt/api"
	"shunt/limb"
	"shunt/num"
	"shunt/rat"
)

func thereAndBack(t *testing.T, n api.Num) {
	t.Helper()
	s, err := num.Text(n)
	if err != api.OK || !ofTheForms(s) {
		t.Errorf("Text(%v): %q with error %d", n, s, err)
	}
	reads(t, s, n)
}

func TestThereAndBack(t *testing.T) {
	d := dice(1)
	for _, n := range rights() {
		thereAndBack(t, n)
	}
	for range 50000 {
		thereAndBack(t, d.number())
	}
}

// Every text of up to four bytes, of all bytes that the forms know and some more.
func TestEveryShortText(t *testing.T) {
	const bytes = "-+.0159ekmgftpnuK \xb5"
	list := []string{""}
	for range 4 {
		var longer []string
		for _, s := range list {
			for i := range len(bytes) {
				longer = append(longer, s+bytes[i:i+1])
			}
		}
		for _, s := range longer {
			asSaid(t, s)
		}
		list = longer
	}
}

// Every byte at every place of a text of the forms, instead of what stands there and between.
func TestEveryByteAtEveryPlace(t *testing.T) {
	for _, s := range []string{"-10.50meg", "4.7k", "25e-12", "0e+9", "3t"} {
		for i := range len(s) + 1 {
			for b := range 256 {
				c := string([]byte{byte(b)})
				asSaid(t, s[:i]+c+s[i:])
				if i < len(s) {
					asSaid(t, s[:i]+c+s[i+1:])
				}
			}
		}
	}
}

// digits are n of them, often noughts.
func (d *dice) digits(n int) string {
	var b strings.Builder
	for range n {
		b.WriteByte("00000123456789"[d.below(14)])
	}
	return b.String()
}

// text is of the forms, but that it may be too long.
func (d *dice) text() string {
	s := []string{"", "-"}[d.below(2)] + d.digits(1+d.below(15))
	if d.below(2) == 0 {
		s += "." + d.digits(1+d.below(15))
	}
	if d.below(3) == 0 {
		return s + "e" + []string{"", "+", "-"}[d.below(3)] + d.digits(1+d.below(2))
	}
	return s + []string{"", "f", "p", "n", "u", "m", "k", "meg", "g", "t"}[d.below(10)]
}

func TestWhatParseTells(t *testing.T) {
	d := dice(2)
	told := 0
	for range 20000 {
		s := d.text()
		asSaid(t, s)
		n, err := num.Parse(s)
		if err != api.OK {
			continue
		}
		told++
		if !num.Valid(n) {
			t.Fatalf("Parse(%q): %v isn't right", s, n)
		}
		if r, err := num.Value(n); !one(r, said(s)) || err != api.OK {
			t.Fatalf("Parse(%q): %v is worth %v with error %d", s, n, r, err)
		}
		thereAndBack(t, n)
	}
	if told < 5000 {
		t.Error("too few of the texts say a right number:", told)
	}
}

// inSmallest is n in units of ten to the power -18.
func inSmallest(n api.Num) api.Int { return sure(limb.Mul(limb.Of(n.Mant), ten(n.Exp+18))) }

// compares fails unless Cmp answers as the values stand, by layer 1 and by layer 2.
func compares(t *testing.T, a, b api.Num) int {
	t.Helper()
	c, err := num.Cmp(a, b)
	if err != api.OK || c != sure(limb.Cmp(inSmallest(a), inSmallest(b))) {
		t.Errorf("Cmp(%v, %v): %d with error %d", a, b, c, err)
	}
	if c != sure(rat.Cmp(sure(num.Value(a)), sure(num.Value(b)))) {
		t.Errorf("Cmp(%v, %v): %d, and of the values otherwise", a, b, c)
	}
	if (c == 0) != (a == b) {
		t.Errorf("Cmp(%v, %v): %d", a, b, c)
	}
	return c
}

// near are numbers whose values lie close by.
func near() []api.Num {
	return []api.Num{
		{}, {Mant: 1}, {Mant: -1}, {Mant: 999999999, Exp: -9}, {Mant: 100000001, Exp: -8}, {Mant: 999999999, Exp: 9}, {Mant: -999999999, Exp: 9},
		{Mant: 1, Exp: -18}, {Mant: -1, Exp: -18}, {Mant: 2, Exp: -18}, {Mant: 11, Exp: -18}, {Mant: 1, Exp: -17}, {Mant: 9, Exp: -18},
		{Mant: 999, Exp: 0}, {Mant: 1, Exp: 3}, {Mant: 1001, Exp: 0}, {Mant: -999, Exp: 0}, {Mant: -1, Exp: 3}, {Mant: 1, Exp: 9}, {Mant: 999999999},
		{Mant: 100000001, Exp: 1}, {Mant: -1, Exp: 9}, {Mant: -999999999}, {Mant: -100000001, Exp: 1}, {Mant: 5, Exp: -1}, {Mant: 49, Exp: -2},
	}
}

func TestCmp(t *testing.T) {
	d := dice(3)
	list := near()
	for range 120 {
		list = append(list, d.number())
	}
	for _, a := range list {
		for _, b := range list {
			if compares(t, a, b) != -compares(t, b, a) {
				t.Errorf("Cmp of %v and %v hangs on their order", a, b)
			}
		}
	}
}

// An order: what is sorted by Cmp rises from each to all that follow.
func TestCmpIsAnOrder(t *testing.T) {
	d := dice(4)
	list := near()
	for range 150 {
		list = append(list, d.number())
	}
	slices.SortFunc(list, func(a, b api.Num) int { return sure(num.Cmp(a, b)) })
	list = slices.Compact(list)
	for i, a := range list {
		for j, b := range list {
			if c := sure(num.Cmp(a, b)); c != cmp.Compare(i, j) {
				t.Errorf("Cmp(%v, %v): %d at the places %d and %d", a, b, c, i, j)
			}
		}
	}
}
