package num_test

import (
	"math"
	"regexp"
	"slices"
	"testing"

	"shunt/api"
	"shunt/limb"
	"shunt/num"
	"shunt/rat"
)

// dice is a row of numbers that is the same at every run.
type dice uint64

func (d *dice) next() uint64 {
	*d ^= *d << 13
	*d ^= *d >> 7
	*d ^= *d << 17
	return uint64(*d)
}

func (d *dice) below(n int) int { return int(d.next() >> 33 % uint64(n)) }

// number is right, and has each count of digits as often.
func (d *dice) number() api.Num {
	most := 1
	for range 1 + d.below(9) {
		most *= 10
	}
	n := api.Num{Mant: int64(d.below(most)), Exp: api.MinExp + d.below(api.MaxExp-api.MinExp+1)}
	if n.Mant%10 == 0 {
		n.Mant++
	}
	if d.below(2) == 0 {
		n.Mant = -n.Mant
	}
	return n
}

// exps are all that a right number may have.
func exps() []int {
	var list []int
	for e := -18; e <= 9; e++ {
		list = append(list, e)
	}
	return list
}

// mants are right ones, those at the edges among them.
func mants() []int64 {
	return []int64{
		1, -1, 2, -3, 5, 9, -9, 11, 15, 25, -25, 35, 99, 101, -999, 1001, 65537, 99999999, 100000001, -100000001, 499999999,
		500000001, -500000001, 999999991, 999999998, -999999998, 999999999, -999999999,
	}
}

// rights are right numbers of every Exp.
func rights() []api.Num {
	list := []api.Num{{}}
	for _, e := range exps() {
		for _, m := range mants() {
			list = append(list, api.Num{Mant: m, Exp: e})
		}
	}
	return list
}

// wrongs are numbers that aren't right, in each way there is.
func wrongs() []api.Num {
	var list []api.Num
	for _, e := range []int{1, -1, 9, -18, 10, -19, math.MaxInt, math.MinInt} {
		list = append(list, api.Num{Exp: e})
	}
	for _, e := range exps() {
		for _, m := range []int64{
			10, -10, 100, 4700, -999999990, 999999990, 500000000, 1000000000, -1000000000, 1000000001, -1000000001, 1 << 32,
			1<<32 + 1, -1<<32 - 1, 9999999999, math.MaxInt64, math.MinInt64, math.MinInt64 + 1,
		} {
			list = append(list, api.Num{Mant: m, Exp: e})
		}
	}
	for _, e := range []int{10, 11, -19, -20, 12, 99, -99, 246, 1 << 32, -1 << 32, math.MaxInt, math.MinInt} {
		for _, m := range append(mants(), 10, 1000000001, math.MinInt64) {
			list = append(list, api.Num{Mant: m, Exp: e})
		}
	}
	return list
}

// form is the chapter's description of the forms; its length stands apart.
var form = regexp.MustCompile(`\A(-?)([0-9]+)(?:\.([0-9]+))?(?:(f|p|n|u|m|k|meg|g|t)|e([+-]?)([0-9]{1,2}))?\z`)

func ofTheForms(s string) bool { return len(s) <= 32 && form.MatchString(s) }

// letterExp is the letters' power, as the chapter lists them.
func letterExp(letter string) int {
	return map[string]int{"f": -15, "p": -12, "n": -9, "u": -6, "m": -3, "": 0, "k": 3, "meg": 6, "g": 9, "t": 12}[letter]
}

// said is what a text of the forms says, as a fraction.
func said(s string) api.Rat {
	part := form.FindStringSubmatch(s)
	exp := letterExp(part[4])
	for _, c := range part[6] {
		exp = 10*exp + int(c-'0')
	}
	if part[5] == "-" {
		exp = -exp
	}
	digits := api.Int{}
	for _, c := range part[2] + part[3] {
		digits = sure(limb.Add(sure(limb.Mul(digits, limb.Of(10))), limb.Of(int64(c-'0'))))
	}
	digits.Neg = part[1] == "-" && len(digits.Limbs) > 0
	return times(digits, exp-len(part[3]))
}

// times is a times ten to the power exp.
func times(a api.Int, exp int) api.Rat {
	if exp < 0 {
		return sure(rat.Make(a, ten(-exp)))
	}
	return sure(rat.Make(sure(limb.Mul(a, ten(exp))), limb.Of(1)))
}

func ten(exp int) api.Int {
	power := limb.Of(1)
	for range exp {
		power = sure(limb.Mul(power, limb.Of(10)))
	}
	return power
}

// rightOf looks for the right number of a value among all that there are.
func rightOf(value api.Rat) (api.Num, bool) {
	if len(value.Num.Limbs) == 0 {
		return api.Num{}, true
	}
	for _, e := range exps() {
		mant := sure(rat.Mul(value, times(limb.Of(1), -e)))
		m, err := limb.Int64(mant.Num)
		whole := oneInt(mant.Den, limb.Of(1)) && err == api.OK
		if whole && -999999999 <= m && m <= 999999999 && m%10 != 0 {
			return api.Num{Mant: m, Exp: e}, true
		}
	}
	return api.Num{}, false
}

// sure gives what a lower layer answers where it can't refuse.
func sure[T any](a T, err api.Errno) T {
	if err != api.OK {
		panic(err)
	}
	return a
}

func oneInt(a, b api.Int) bool { return a.Neg == b.Neg && slices.Equal(a.Limbs, b.Limbs) }
func one(a, b api.Rat) bool    { return oneInt(a.Num, b.Num) && oneInt(a.Den, b.Den) }

// reads fails unless s is read as n.
func reads(t *testing.T, s string, n api.Num) {
	t.Helper()
	if m, err := num.Parse(s); m != n || err != api.OK {
		t.Errorf("Parse(%q): %v with error %d, not %v", s, m, err, n)
	}
}

// unread fails unless s is refused for that error.
func unread(t *testing.T, s string, want api.Errno) {
	t.Helper()
	if m, err := num.Parse(s); m != (api.Num{}) || err != want {
		t.Errorf("Parse(%q): %v with error %d, not nothing with error %d", s, m, err, want)
	}
}

// asSaid fails unless Parse answers of s as the chapter's words say.
func asSaid(t *testing.T, s string) {
	t.Helper()
	if !ofTheForms(s) {
		unread(t, s, api.ErrText)
		return
	}
	if n, ok := rightOf(said(s)); ok {
		reads(t, s, n)
	} else {
		unread(t, s, api.ErrNum)
	}
}
