package limb_test

import (
	"slices"
	"testing"

	"shunt/api"
	"shunt/limb"
)

// spare is a with spare room behind its limbs.
func spare(a api.Int) api.Int {
	l := make([]uint32, len(a.Limbs)+80)
	n := copy(l, a.Limbs)
	for i := n; i < len(l); i++ {
		l[i] = uint32(0xabc00000 + i)
	}
	a.Limbs = l[:n]
	return a
}

func room(a api.Int) []uint32 { return a.Limbs[:cap(a.Limbs)] }

func scribble(a api.Int) {
	l := room(a)
	for i := range l {
		l[i] ^= 0x5a5a5a5a
	}
}

// calls are those that answer whole numbers, each as a list of what it answers.
func calls() map[string]func(a, b api.Int) []api.Int {
	two := func(f func(a, b api.Int) (api.Int, api.Errno)) func(a, b api.Int) []api.Int {
		return func(a, b api.Int) []api.Int {
			c, _ := f(a, b)
			return []api.Int{c}
		}
	}
	return map[string]func(a, b api.Int) []api.Int{
		"Add": two(limb.Add), "Sub": two(limb.Sub), "Mul": two(limb.Mul), "Exact": two(limb.Exact), "Gcd": two(limb.Gcd),
		"QuoRem": func(a, b api.Int) []api.Int {
			q, r, _ := limb.QuoRem(a, b)
			return []api.Int{q, r}
		},
		"the rest": func(a, b api.Int) []api.Int {
			limb.Check(a)
			limb.Fits(a, 3)
			limb.Int64(a)
			limb.Cmp(a, b)
			limb.Text(a)
			return nil
		},
	}
}

// held are arguments at which the calls take each of their ways.
func held() []api.Int {
	d := dice(10)
	list := append(rights(), wrongs()...)
	for n := range 6 {
		list = append(list, d.number(n), d.number(30+n), d.number(66+n))
	}
	return append(list, limb.Of(6), limb.Of(-12), pos(0, 0, 0, 6), pos(0, 0, 0, 0, 4))
}

func TestNothingHandedInIsChanged(t *testing.T) {
	list := held()
	for name, f := range calls() {
		for _, x := range list {
			for _, y := range list {
				a, b := spare(x), spare(y)
				wasA, wasB := slices.Clone(room(a)), slices.Clone(room(b))
				answers := f(a, b)
				if !slices.Equal(room(a), wasA) || !slices.Equal(room(b), wasB) {
					t.Fatalf("%s changes what it is handed: %v, %v", name, x, y)
				}
				for _, c := range answers {
					scribble(c)
				}
				if !slices.Equal(room(a), wasA) || !slices.Equal(room(b), wasB) {
					t.Fatalf("%s answers what it was handed: %v, %v", name, x, y)
				}
			}
		}
	}
}

func TestAnswersAreNew(t *testing.T) {
	list := held()
	for name, f := range calls() {
		for _, x := range list {
			for _, y := range list {
				newAnswers(t, name, f, x, y)
			}
		}
	}
}

func newAnswers(t *testing.T, name string, f func(a, b api.Int) []api.Int, x, y api.Int) {
	t.Helper()
	a, b := spare(x), spare(y)
	answers, want := f(a, b), f(spare(x), spare(y))
	scribble(a)
	scribble(b)
	if !slices.EqualFunc(answers, want, one) {
		t.Fatalf("%s keeps what it was handed: %v, %v", name, x, y)
	}
	for i, c := range answers {
		for _, other := range answers[i+1:] {
			was := slices.Clone(room(other))
			scribble(c)
			if !slices.Equal(room(other), was) {
				t.Fatalf("%s: two lists of one answer share memory: %v, %v", name, x, y)
			}
		}
	}
	if !slices.EqualFunc(f(spare(x), spare(y)), want, one) {
		t.Fatalf("%s answers otherwise the second time: %v, %v", name, x, y)
	}
}

func TestOneNumberAsBoth(t *testing.T) {
	for _, x := range rights() {
		for name, f := range calls() {
			a := spare(x)
			apart, at1 := f(spare(x), spare(x)), f(a, a)
			for i := range apart {
				if !one(apart[i], at1[i]) {
					t.Errorf("%s of one number as both: %v, not %v", name, at1[i], apart[i])
				}
			}
		}
	}
}

func TestOfAndParseAnswerNewMemory(t *testing.T) {
	for _, v := range []int64{0, 5, -1, 1 << 40} {
		a := limb.Of(v)
		scribble(a)
		if back, err := limb.Int64(limb.Of(v)); back != v || err != api.OK {
			t.Errorf("Of(%d) behind a scribble: %d, %d", v, back, err)
		}
	}
	for _, s := range []string{"0", "7", "-18446744073709551616"} {
		a, _ := limb.Parse(s)
		scribble(a)
		b, err := limb.Parse(s)
		if good(t, "Parse", b, err); textOf(t, b) != s {
			t.Errorf("Parse(%s) behind a scribble: %v", s, b)
		}
	}
}
