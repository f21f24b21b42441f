package rat_test

import (
	"math"
	"slices"
	"testing"

	"shunt/api"
	"shunt/limb"
	"shunt/rat"
)

func TestMakeEdges(t *testing.T) {
	for _, c := range []struct {
		num, den api.Int
		want     api.Rat
	}{
		{api.Int{}, limb.Of(1), ratio(0, 1)},
		{api.Int{Limbs: []uint32{}}, minus(most()), ratio(0, 1)},
		{most(), most(), ratio(1, 1)},
		{most(), minus(most()), ratio(-1, 1)},
		{minus(most()), minus(most()), ratio(1, 1)},
		{most(), limb.Of(1), whole(most())},
		{most(), limb.Of(-1), whole(minus(most()))},
		{limb.Of(-1), minus(most()), api.Rat{Num: limb.Of(1), Den: most()}},
		{most(), minus(power(71)), api.Rat{Num: minus(most()), Den: power(71)}},
		{power(71), power(70), whole(power(1))},
		{power(70), minus(power(71)), api.Rat{Num: limb.Of(-1), Den: power(1)}},
		{most(), filled(36, 0xffffffff), whole(sure(limb.Add(power(36), limb.Of(1))))},
	} {
		r, err := rat.Make(c.num, c.den)
		is(t, "Make", r, err, c.want)
	}
}

// Sums at the bound: the greatest and the least right whole numbers are answered, one further is refused.
func TestSumsAtTheBound(t *testing.T) {
	top, half := whole(most()), api.Rat{Num: most(), Den: limb.Of(2)}
	third := sure(limb.Exact(most(), limb.Of(3)))
	for _, c := range [][3]api.Rat{
		{top, ratio(0, 1), top},
		{top, negative(top), ratio(0, 1)},
		{half, half, top},
		{whole(sure(limb.Add(filledHalf(), limb.Of(1)))), ratio(-1, 2), half},
		// What the two have beyond a whole number has 73 limbs in all, until it is reduced by 3.
		{
			api.Rat{Num: sure(limb.Sub(most(), limb.Of(1))), Den: most()}, api.Rat{Num: sure(limb.Sub(most(), limb.Of(2))), Den: most()},
			api.Rat{Num: sure(limb.Sub(sure(limb.Mul(third, limb.Of(2))), limb.Of(1))), Den: third},
		},
		{half, ratio(-1, 2), whole(filledHalf())},
		{whole(sure(limb.Sub(most(), limb.Of(1)))), ratio(1, 1), top},
		{api.Rat{Num: limb.Of(1), Den: most()}, ratio(0, 1), api.Rat{Num: limb.Of(1), Den: most()}},
		{api.Rat{Num: limb.Of(1), Den: most()}, api.Rat{Num: limb.Of(1), Den: most()}, api.Rat{Num: limb.Of(2), Den: most()}},
		{api.Rat{Num: power(71), Den: most()}, api.Rat{Num: sure(limb.Sub(most(), power(71))), Den: most()}, ratio(1, 1)},
	} {
		sumBothWays(t, c[0], c[1], c[2])
		sumBothWays(t, negative(c[0]), negative(c[1]), negative(c[2]))
	}
	for _, c := range [][2]api.Rat{
		{top, ratio(1, 1)}, {top, top}, {top, ratio(1, 2)}, {half, ratio(1, 3)},
		{top, ratio(-1, 2)}, // nearer to 0 than the greatest, but over 2
		{api.Rat{Num: limb.Of(1), Den: most()}, api.Rat{Num: limb.Of(1), Den: power(71)}},
		{api.Rat{Num: limb.Of(1), Den: most()}, api.Rat{Num: limb.Of(-1), Den: power(71)}},
	} {
		wideBothWays(t, c[0], c[1])
		wideBothWays(t, negative(c[0]), negative(c[1]))
	}
}

// filledHalf is 2^2303 - 1.
func filledHalf() api.Int {
	a := most()
	a.Limbs[71] = 0x7fffffff
	return a
}

func sumBothWays(t *testing.T, a, b, want api.Rat) {
	t.Helper()
	r, err := rat.Add(a, b)
	is(t, "Add", r, err, want)
	r, err = rat.Add(b, a)
	is(t, "Add the other way round", r, err, want)
	r, err = rat.Sub(a, negative(b))
	is(t, "Sub", r, err, want)
	r, err = rat.Sub(negative(b), a)
	is(t, "Sub the other way round", r, err, negative(want))
}

func wideBothWays(t *testing.T, a, b api.Rat) {
	t.Helper()
	r, err := rat.Add(a, b)
	refused(t, "Add", r, err, api.ErrWide)
	r, err = rat.Add(b, a)
	refused(t, "Add the other way round", r, err, api.ErrWide)
	r, err = rat.Sub(a, negative(b))
	refused(t, "Sub", r, err, api.ErrWide)
	r, err = rat.Sub(negative(b), a)
	refused(t, "Sub the other way round", r, err, api.ErrWide)
}

// Here the products across have 108 limbs and nearly all of that falls away: (u k + 1) / u less (v k + 1) / v is the
// same as 1/u less 1/v, whatever k is.
func TestLongNumeratorsPassThrough(t *testing.T) {
	u := filled(36, 0xffffffff)
	v := sure(limb.Add(power(36), limb.Of(1)))
	want := api.Rat{Num: limb.Of(2), Den: most()}
	for _, k := range []api.Int{{}, limb.Of(1), filled(35, 0xffffffff), minus(filled(35, 0xffffffff)), minus(power(30))} {
		a := api.Rat{Num: sure(limb.Add(sure(limb.Mul(u, k)), limb.Of(1))), Den: u}
		b := api.Rat{Num: sure(limb.Add(sure(limb.Mul(v, k)), limb.Of(1))), Den: v}
		sumBothWays(t, a, negative(b), want)
		sumBothWays(t, b, negative(a), negative(want))
	}
}

// Here the common denominator has 73 limbs or more, and all of what is shared falls away: 1/(3 w) and 1/(6 w) make up
// 1/(2 w), with w such that 6 w is still right.
func TestLongDenominatorsPassThrough(t *testing.T) {
	w := filled(72, 0x15555555) // 6 w is below 2^2304, 18 w is above it
	three, six := sure(limb.Mul(w, limb.Of(3))), sure(limb.Mul(w, limb.Of(6)))
	sumBothWays(t, api.Rat{Num: limb.Of(1), Den: three}, api.Rat{Num: limb.Of(1), Den: six}, api.Rat{Num: limb.Of(1), Den: sure(limb.Mul(w, limb.Of(2)))})
	// Of 1/(u w) and 1/(v w) comes 1/(u v), if w is u + v; 36 limbs each.
	u := filled(36, 0x7ffffffe)
	v := sure(limb.Add(u, limb.Of(1)))
	sum := sure(limb.Add(u, v))
	a := api.Rat{Num: limb.Of(1), Den: sure(limb.Mul(u, sum))}
	b := api.Rat{Num: limb.Of(1), Den: sure(limb.Mul(v, sum))}
	sumBothWays(t, a, b, api.Rat{Num: limb.Of(1), Den: sure(limb.Mul(u, v))})
}

func TestProductsAtTheBound(t *testing.T) {
	top, bottom := whole(most()), api.Rat{Num: limb.Of(1), Den: most()}
	for _, c := range [][3]api.Rat{
		{top, bottom, ratio(1, 1)},
		{top, ratio(0, 1), ratio(0, 1)},
		{bottom, ratio(0, 1), ratio(0, 1)},
		{top, ratio(-1, 1), negative(top)},
		{api.Rat{Num: most(), Den: power(71)}, api.Rat{Num: power(71), Den: most()}, ratio(1, 1)},
		{api.Rat{Num: power(71), Den: most()}, whole(filled(36, 0xffffffff)), api.Rat{Num: power(71), Den: sure(limb.Add(power(36), limb.Of(1)))}},
		{whole(power(35)), whole(power(36)), whole(power(71))},
		{whole(power(71)), whole(limb.Of(-7)), whole(sure(limb.Mul(power(71), limb.Of(-7))))},
	} {
		for _, pair := range [][2]api.Rat{{c[0], c[1]}, {c[1], c[0]}} {
			r, err := rat.Mul(pair[0], pair[1])
			is(t, "Mul", r, err, c[2])
			r, err = rat.Mul(negative(pair[0]), pair[1])
			is(t, "Mul", r, err, negative(c[2]))
		}
	}
	for _, c := range [][2]api.Rat{{top, ratio(2, 1)}, {bottom, ratio(1, 2)}, {top, top}, {bottom, bottom}, {whole(power(36)), whole(power(36))}} {
		r, err := rat.Mul(c[0], c[1])
		refused(t, "Mul", r, err, api.ErrWide)
		r, err = rat.Div(c[0], api.Rat{Num: c[1].Den, Den: c[1].Num})
		refused(t, "Div", r, err, api.ErrWide)
	}
}

func TestQuotientsAtTheBound(t *testing.T) {
	top, bottom := whole(most()), api.Rat{Num: limb.Of(1), Den: most()}
	for _, c := range [][3]api.Rat{
		{top, top, ratio(1, 1)},
		{bottom, negative(bottom), ratio(-1, 1)},
		{ratio(1, 1), top, bottom},
		{ratio(-1, 1), bottom, negative(top)},
		{ratio(0, 1), top, ratio(0, 1)},
		{ratio(0, 1), negative(bottom), ratio(0, 1)},
		{top, whole(power(71)), api.Rat{Num: most(), Den: power(71)}},
		{negative(top), whole(minus(power(71))), api.Rat{Num: most(), Den: power(71)}},
		{bottom, api.Rat{Num: limb.Of(-1), Den: power(71)}, api.Rat{Num: minus(power(71)), Den: most()}},
	} {
		r, err := rat.Div(c[0], c[1])
		is(t, "Div", r, err, c[2])
	}
	r, err := rat.Div(top, bottom)
	refused(t, "Div of the greatest by the least", r, err, api.ErrWide)
	r, err = rat.Div(bottom, top)
	refused(t, "Div of the least by the greatest", r, err, api.ErrWide)
}

func TestCmpInARow(t *testing.T) {
	less := sure(limb.Sub(most(), limb.Of(2)))
	// From 0 on, each one is less than all behind it; below 0 it is the other way round.
	up := []api.Rat{
		{Num: limb.Of(1), Den: most()}, {Num: limb.Of(1), Den: less}, ratio(1, 3), ratio(2, 5), ratio(3, 7), ratio(1, 2), ratio(4, 7), ratio(3, 5), ratio(2, 3),
		{Num: less, Den: sure(limb.Sub(most(), limb.Of(1)))}, {Num: sure(limb.Sub(most(), limb.Of(1))), Den: most()}, ratio(1, 1),
		{Num: most(), Den: sure(limb.Sub(most(), limb.Of(1)))}, {Num: sure(limb.Sub(most(), limb.Of(1))), Den: less},
		ratio(9, 7), ratio(13, 10), ratio(4, 3), ratio(7, 5), ratio(3, 2), ratio(2, 1), ratio(30, 13), ratio(7, 3),
		{Num: most(), Den: limb.Of(2)}, whole(less), whole(most()),
	}
	row := append([]api.Rat{ratio(0, 1)}, up...)
	for _, r := range up {
		row = slices.Insert(row, 0, negative(r))
	}
	for i, a := range row {
		for j, b := range row {
			want := 0
			if i < j {
				want = -1
			}
			if i > j {
				want = 1
			}
			if c, err := rat.Cmp(a, b); c != want || err != api.OK {
				t.Errorf("Cmp(%v, %v): %d, %d", a, b, c, err)
			}
		}
	}
	if c, err := rat.Cmp(ratio(0, 1), api.Rat{Num: api.Int{Limbs: []uint32{}}, Den: limb.Of(1)}); c != 0 || err != api.OK {
		t.Error("Cmp of 0 and 0:", c, err)
	}
}

// Neighbours among Fibonacci's numbers are told apart the longest way.
func TestCmpTheLongestWay(t *testing.T) {
	a, b := limb.Of(1), limb.Of(1)
	for c, err := limb.Add(a, b); err == api.OK; c, err = limb.Add(a, b) {
		a, b = b, c
	}
	before := sure(limb.Sub(b, a))
	x, y := api.Rat{Num: b, Den: a}, api.Rat{Num: a, Den: before}
	num := tallOf(x.Num).times(tallOf(y.Den)).minus(tallOf(y.Num).times(tallOf(x.Den)))
	for _, c := range []struct {
		a, b api.Rat
		want int
	}{{x, y, num.sign()}, {y, x, -num.sign()}, {negative(x), negative(y), -num.sign()}, {x, x, 0}, {negative(y), negative(y), 0}} {
		if got, err := rat.Cmp(c.a, c.b); got != c.want || err != api.OK {
			t.Errorf("Cmp: %d, %d, not %d", got, err, c.want)
		}
	}
}

// roundedTo fails unless r is rounded to n, and -r to -n.
func roundedTo(t *testing.T, r api.Rat, n int64) {
	t.Helper()
	if got, err := rat.Round(r); got != n || err != api.OK {
		t.Errorf("Round(%v): %d, %d, not %d", r, got, err, n)
	}
	if got, err := rat.Round(negative(r)); got != -n || err != api.OK {
		t.Errorf("Round(-%v): %d, %d, not %d", r, got, err, -n)
	}
}

func offGrid(t *testing.T, r api.Rat) {
	t.Helper()
	for _, x := range []api.Rat{r, negative(r)} {
		if n, err := rat.Round(x); n != 0 || err != api.ErrRange {
			t.Errorf("Round(%v): %d, %d", x, n, err)
		}
	}
}

func TestRoundHalves(t *testing.T) {
	for n := range int64(40) {
		even := n + n%2
		roundedTo(t, ratio(2*n+1, 2), even)
		roundedTo(t, over(limb.Of(200*n+99), limb.Of(200)), n)
		roundedTo(t, over(limb.Of(200*n+101), limb.Of(200)), n+1)
		roundedTo(t, ratio(n, 1), n)
		roundedTo(t, ratio(3*n+1, 3), n)
		roundedTo(t, ratio(3*n+2, 3), n+1)
	}
}

func TestRoundAtTheGridsEnds(t *testing.T) {
	roundedTo(t, ratio(api.MaxGrid, 1), api.MaxGrid)
	roundedTo(t, ratio(api.MaxGrid-1, 1), api.MaxGrid-1)
	roundedTo(t, ratio(2*api.MaxGrid-1, 2), api.MaxGrid)
	roundedTo(t, ratio(2*api.MaxGrid-3, 2), api.MaxGrid-2)
	roundedTo(t, ratio(2*api.MaxGrid+1, 2), api.MaxGrid)
	roundedTo(t, ratio(4*api.MaxGrid+1, 4), api.MaxGrid)
	offGrid(t, ratio(4*api.MaxGrid+3, 4))
	offGrid(t, ratio(api.MaxGrid+1, 1))
	offGrid(t, ratio(2*api.MaxGrid+3, 2))
	offGrid(t, ratio(math.MaxInt64, 1))
	offGrid(t, ratio(math.MaxInt64-1, 1))
	offGrid(t, ratio(math.MaxInt64, 2))
	offGrid(t, over(limb.Of(math.MinInt64), limb.Of(1)))
	// Just below and above 2^63, where an int64 ends.
	offGrid(t, api.Rat{Num: api.Int{Limbs: []uint32{0xffffffff, 0xffffffff}}, Den: limb.Of(2)})
	offGrid(t, api.Rat{Num: api.Int{Limbs: []uint32{0xfffffffd, 0xffffffff}}, Den: limb.Of(2)})
	offGrid(t, api.Rat{Num: api.Int{Limbs: []uint32{3, 0, 1}}, Den: limb.Of(2)})
}

func TestRoundLongParts(t *testing.T) {
	offGrid(t, whole(most()))
	offGrid(t, api.Rat{Num: most(), Den: limb.Of(2)})
	offGrid(t, api.Rat{Num: most(), Den: power(69)})
	roundedTo(t, api.Rat{Num: limb.Of(1), Den: most()}, 0)
	roundedTo(t, api.Rat{Num: sure(limb.Sub(most(), limb.Of(1))), Den: most()}, 1)
	// Denominators whose doubles have 73 limbs: just below and just above the half.
	roundedTo(t, api.Rat{Num: filledHalf(), Den: most()}, 0)
	roundedTo(t, api.Rat{Num: sure(limb.Add(filledHalf(), limb.Of(1))), Den: most()}, 1)
	roundedTo(t, api.Rat{Num: most(), Den: sure(limb.Sub(most(), limb.Of(1)))}, 1)
	// 10^18 and just a half, less and more by as little as 70 limbs can tell.
	long := power(69)
	end := sure(limb.Mul(sure(limb.Parse("2000000000000000001")), sure(limb.Exact(long, limb.Of(2)))))
	roundedTo(t, over(end, long), api.MaxGrid)
	roundedTo(t, over(sure(limb.Sub(end, limb.Of(1))), long), api.MaxGrid)
	offGrid(t, over(sure(limb.Add(end, limb.Of(1))), long))
}

func TestLcmEdges(t *testing.T) {
	m, err := rat.Lcm([]api.Rat{})
	isInt(t, "Lcm of an empty list", m, err, limb.Of(1))
	many := make([]api.Rat, 1000)
	for i := range many {
		many[i] = over(limb.Of(1), limb.Of(int64(i%20+1)))
	}
	for _, c := range []struct {
		l    []api.Rat
		want api.Int
	}{
		{[]api.Rat{ratio(0, 1)}, limb.Of(1)},
		{[]api.Rat{ratio(0, 1), whole(most()), ratio(-7, 1)}, limb.Of(1)},
		{[]api.Rat{ratio(5, 6)}, limb.Of(6)},
		{[]api.Rat{ratio(-5, 6), ratio(1, 6), ratio(7, 6)}, limb.Of(6)},
		{[]api.Rat{ratio(1, 2), ratio(1, 3), ratio(1, 4), ratio(1, 5), ratio(0, 1), ratio(1, 6)}, limb.Of(60)},
		{many, limb.Of(232792560)},
		{[]api.Rat{{Num: limb.Of(1), Den: most()}}, most()},
		{[]api.Rat{{Num: limb.Of(1), Den: most()}, {Num: limb.Of(1), Den: filled(36, 0xffffffff)}, {Num: limb.Of(2), Den: most()}}, most()},
		{[]api.Rat{{Num: limb.Of(1), Den: filled(36, 0xffffffff)}, {Num: limb.Of(1), Den: sure(limb.Add(power(36), limb.Of(1)))}}, most()},
		{[]api.Rat{{Num: limb.Of(1), Den: power(71)}, {Num: limb.Of(1), Den: power(70)}, ratio(1, 1<<40)}, power(71)},
	} {
		m, err := rat.Lcm(c.l)
		isInt(t, "Lcm", m, err, c.want)
	}
	for _, l := range [][]api.Rat{
		{{Num: limb.Of(1), Den: most()}, ratio(1, 2)},
		{ratio(1, 2), {Num: limb.Of(1), Den: most()}},
		{{Num: limb.Of(1), Den: most()}, {Num: limb.Of(1), Den: power(71)}, ratio(1, 1)},
		{{Num: limb.Of(1), Den: power(37)}, {Num: limb.Of(1), Den: filled(36, 0xffffffff)}},
	} {
		m, err := rat.Lcm(l)
		refusedInt(t, "Lcm", m, err, api.ErrWide)
	}
}

func TestWholeEdges(t *testing.T) {
	third := api.Rat{Num: power(70), Den: limb.Of(3)}
	for _, c := range []struct {
		r        api.Rat
		by, want api.Int
	}{
		{ratio(0, 1), api.Int{}, api.Int{}},
		{ratio(0, 1), most(), api.Int{}},
		{ratio(-5, 6), api.Int{}, api.Int{}},
		{ratio(-5, 6), limb.Of(-12), limb.Of(10)},
		{ratio(-5, 6), limb.Of(6), limb.Of(-5)},
		{ratio(7, 1), limb.Of(-1), limb.Of(-7)},
		{whole(most()), limb.Of(1), most()},
		{whole(most()), limb.Of(-1), minus(most())},
		{api.Rat{Num: limb.Of(1), Den: most()}, most(), limb.Of(1)},
		{api.Rat{Num: limb.Of(-1), Den: most()}, minus(most()), limb.Of(1)},
		// The product ahead of the division would have 143 limbs or so.
		{api.Rat{Num: power(71), Den: most()}, most(), power(71)},
		{api.Rat{Num: sure(limb.Sub(most(), limb.Of(1))), Den: most()}, minus(most()), minus(sure(limb.Sub(most(), limb.Of(1))))},
		{third, limb.Of(-6), minus(sure(limb.Mul(power(70), limb.Of(2))))},
	} {
		n, err := rat.Whole(c.r, c.by)
		isInt(t, "Whole", n, err, c.want)
	}
	for _, c := range []struct {
		r  api.Rat
		by api.Int
	}{
		{ratio(1, 6), limb.Of(3)}, {ratio(5, 6), limb.Of(-2)}, {ratio(1, 2), limb.Of(1)},
		{api.Rat{Num: power(71), Den: most()}, limb.Of(1)},
		{api.Rat{Num: limb.Of(1), Den: most()}, sure(limb.Sub(most(), limb.Of(1)))},
		// Too wide as well: what isn't whole is told first.
		{third, power(71)}, {api.Rat{Num: most(), Den: limb.Of(2)}, most()},
	} {
		n, err := rat.Whole(c.r, c.by)
		refusedInt(t, "Whole", n, err, api.ErrExact)
	}
	for _, c := range []struct {
		r  api.Rat
		by api.Int
	}{{whole(most()), limb.Of(2)}, {third, sure(limb.Mul(power(2), limb.Of(3)))}, {whole(power(36)), minus(power(36))}} {
		n, err := rat.Whole(c.r, c.by)
		refusedInt(t, "Whole", n, err, api.ErrWide)
	}
}
