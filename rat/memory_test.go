package rat_test

import (
	"slices"
	"testing"

	"shunt/api"
	"shunt/limb"
	"shunt/rat"
)

// spare is a with spare room behind its limbs.
func spare(a api.Int) api.Int {
	l := make([]uint32, len(a.Limbs)+80)
	n := copy(l, a.Limbs)
	for i := n; i < len(l); i++ {
		l[i] = uint32(0xabc00000 + i)
	}
	a.Limbs = l[:n]
	return a
}

func spareRat(r api.Rat) api.Rat { return api.Rat{Num: spare(r.Num), Den: spare(r.Den)} }

// room is all that a's list holds, its spare room too.
func room(a api.Int) []uint32 { return a.Limbs[:cap(a.Limbs)] }

func scribble(numbers []api.Int) {
	for _, a := range numbers {
		l := room(a)
		for i := range l {
			l[i] ^= 0x5a5a5a5a
		}
	}
}

// handed are all arguments of a call, and a list of both fractions with a third in its spare room.
type handed struct {
	a, b api.Rat
	list []api.Rat
}

func hand(x, y api.Rat) handed {
	h := handed{a: spareRat(x), b: spareRat(y)}
	h.list = []api.Rat{spareRat(x), spareRat(y), spareRat(x)}[:2]
	return h
}

func (h handed) numbers() []api.Int {
	numbers := []api.Int{h.a.Num, h.a.Den, h.b.Num, h.b.Den}
	for _, r := range h.list[:3] {
		numbers = append(numbers, r.Num, r.Den)
	}
	return numbers
}

// look is all that can be told of what was handed in.
func (h handed) look() []uint32 {
	var all []uint32
	for _, a := range h.numbers() {
		all = append(all, uint32(btoi(a.Neg)), uint32(len(a.Limbs)))
		all = append(all, room(a)...)
	}
	return all
}

// calls answer all whole numbers of their answer, each as a list of its own.
func calls() map[string]func(h handed) []api.Int {
	parts := func(r api.Rat, _ api.Errno) []api.Int { return []api.Int{r.Num, r.Den} }
	number := func(a api.Int, _ api.Errno) []api.Int { return []api.Int{a} }
	return map[string]func(h handed) []api.Int{
		"Make":       func(h handed) []api.Int { return parts(rat.Make(h.a.Num, h.b.Den)) },
		"Make again": func(h handed) []api.Int { return parts(rat.Make(h.a.Num, h.a.Den)) },
		"Add":        func(h handed) []api.Int { return parts(rat.Add(h.a, h.b)) },
		"Sub":        func(h handed) []api.Int { return parts(rat.Sub(h.a, h.b)) },
		"Mul":        func(h handed) []api.Int { return parts(rat.Mul(h.a, h.b)) },
		"Div":        func(h handed) []api.Int { return parts(rat.Div(h.a, h.b)) },
		"Lcm":        func(h handed) []api.Int { return number(rat.Lcm(h.list)) },
		"Lcm of one": func(h handed) []api.Int { return number(rat.Lcm(h.list[:1])) },
		"Whole":      func(h handed) []api.Int { return number(rat.Whole(h.a, h.b.Num)) },
		"Whole, Den": func(h handed) []api.Int { return number(rat.Whole(h.a, h.b.Den)) },
		"the rest": func(h handed) []api.Int {
			rat.Check(h.a)
			rat.Cmp(h.a, h.b)
			rat.Round(h.a)
			return nil
		},
	}
}

// held are fractions at which the calls take each of their ways.
func held() []api.Rat {
	d := dice(11)
	list := slices.Concat(rights(), notLowest(), ofWrongInts()[:8])
	for _, n := range []int{1, 2, 20, 36, 70} {
		list = append(list, d.fraction(n, n), d.fraction(n, 1), d.fraction(1, n))
	}
	a, b := d.taken()
	c, e := d.close()
	return append(list, ratio(6, 1), ratio(1, 6), ratio(-5, 12), a, b, c, e)
}

func TestNothingHandedInIsChanged(t *testing.T) {
	list := held()
	for name, f := range calls() {
		for _, x := range list {
			for _, y := range list {
				h := hand(x, y)
				was := h.look()
				answers := f(h)
				if !slices.Equal(h.look(), was) {
					t.Fatalf("%s changes what it is handed: %v, %v", name, x, y)
				}
				scribble(answers)
				if !slices.Equal(h.look(), was) {
					t.Fatalf("%s answers what it was handed: %v, %v", name, x, y)
				}
			}
		}
	}
}

func TestAnswersAreNew(t *testing.T) {
	list := held()
	for name, f := range calls() {
		for _, x := range list {
			for _, y := range list {
				newAnswers(t, name, f, x, y)
			}
		}
	}
}

func newAnswers(t *testing.T, name string, f func(h handed) []api.Int, x, y api.Rat) {
	t.Helper()
	h := hand(x, y)
	answers, want := f(h), f(hand(x, y))
	scribble(h.numbers())
	if !slices.EqualFunc(answers, want, oneInt) {
		t.Fatalf("%s keeps what it was handed: %v, %v", name, x, y)
	}
	for i := range answers {
		for _, other := range answers[i+1:] {
			was := slices.Clone(room(other))
			scribble(answers[i : i+1])
			if !slices.Equal(room(other), was) {
				t.Fatalf("%s: two lists of one answer share memory: %v, %v", name, x, y)
			}
		}
	}
	if !slices.EqualFunc(f(hand(x, y)), want, oneInt) {
		t.Fatalf("%s answers otherwise the second time: %v, %v", name, x, y)
	}
}

func TestOneFractionAsBoth(t *testing.T) {
	for _, x := range held() {
		for name, f := range calls() {
			a := spareRat(x)
			apart, as1 := f(hand(x, x)), f(handed{a: a, b: a, list: []api.Rat{a, a, a}[:2]})
			if !slices.EqualFunc(apart, as1, oneInt) {
				t.Errorf("%s of one fraction as both: %v, not %v", name, as1, apart)
			}
		}
	}
}

// A fraction may have its parts in one piece of memory.
func TestPartsThatShareMemory(t *testing.T) {
	l := []uint32{7, 1, 5, 1, 1, 1}
	a := api.Rat{Num: api.Int{Limbs: l[0:2]}, Den: api.Int{Limbs: l[2:3]}}
	b := api.Rat{Num: api.Int{Neg: true, Limbs: l[3:4]}, Den: api.Int{Limbs: l[2:5]}}
	was := slices.Clone(l)
	for name, f := range pairCalls() {
		got, err := f(a, b)
		apart, _ := f(spareRat(a), spareRat(b))
		is(t, name, got, err, apart)
	}
	if !slices.Equal(l, was) {
		t.Error("changed:", l)
	}
}

func TestLcmKeepsNothing(t *testing.T) {
	for _, l := range [][]api.Rat{nil, {}, {ratio(1, 1)}, {ratio(1, 6)}} {
		m, err := rat.Lcm(l)
		want := api.Int{Neg: m.Neg, Limbs: slices.Clone(m.Limbs)}
		scribble([]api.Int{m})
		again, err2 := rat.Lcm(l)
		isInt(t, "Lcm behind a scribble", again, err, want)
		if err2 != err || limb.Check(again) != api.OK {
			t.Error("Lcm behind a scribble:", err2)
		}
	}
}
