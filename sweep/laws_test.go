package sweep_test

import (
	"slices"
	"strings"
	"testing"

	"shunt/api"
	"shunt/oper"
	"shunt/sweep"
)

// enough fails unless each word was met so often.
func enough(t *testing.T, met, want map[string]int) {
	t.Helper()
	for word, count := range want {
		if met[word] < count {
			t.Errorf("%s: %d times, not %d", word, met[word], count)
		}
	}
}

// outcome is the word under which an answer is counted; "later" is that of an error behind the first point.
func outcome(answer string) string {
	is, _, _ := strings.Cut(answer, " ; ")
	what, at, refused := strings.Cut(is, " at ")
	switch {
	case !refused:
		return "ok"
	case at != "0":
		return what + " later"
	}
	return what
}

// P18.1, P18.3: what Points answers is what the chapter's words come to, point by point, the Counts too.
func TestPointsAreWhatIsMeant(t *testing.T) {
	d := dice(1811)
	met := map[string]int{}
	for k := range 2000 {
		m := d.maker()
		f := m.circuit([]string{bentKinds, plainKinds}[k%2])
		if k%4 == 2 {
			f = m.steep()
		}
		o, q := d.options(), m.span(f)
		if m.one(10) {
			q = m.odd(f)
		}
		got, want := answer(f, o, q), meant(f, o, q)
		if got != want {
			t.Fatalf("%v: Points %v %v: %s, not %s", f, o, q, short(got), short(want))
		}
		met[outcome(got)]++
		if outcome(got) == "ok" && strings.Contains(got, "0]") && strings.Contains(got, "1]") {
			met["two choices"]++
		}
		if outcome(got) == "ok" && 0 <= q.Dev && q.Dev < len(f.Devs) {
			met["over "+string(f.Devs[q.Dev].Kind)]++
		}
	}
	enough(t, met, map[string]int{"ok": 800, "over v": 500, "over i": 250, "two choices": 50, "error 1": 50, "error 4": 50, "error 13": 25, "error 140": 200, "error 160": 70,
		"error 13 later": 25, "error 140 later": 5, "error 160 later": 40})
}

// P18.2: neither an answer nor its Counts hang on how many work.
func TestWorkersMakeNoDifference(t *testing.T) {
	d := dice(1821)
	met := map[string]int{}
	for k := range 300 {
		m := d.maker()
		f := m.circuit([]string{plainKinds, plainKinds, bentKinds}[k%3])
		if k%6 == 5 {
			f = m.steep()
		}
		o, q := d.options(), m.span(f)
		if m.one(15) {
			q.Count = 256
		}
		o.Workers = 1
		want := answer(f, o, q)
		for _, workers := range []int{2, 3, 4, 8, 15, 16, 1} {
			o.Workers = workers
			points(t, f, o, q, want)
		}
		if t.Failed() {
			t.FailNow()
		}
		met[outcome(want)]++
	}
	enough(t, met, map[string]int{"ok": 120, "error 13": 3, "error 13 later": 5, "error 140": 20, "error 160 later": 5})
}

// P18.3: without bent devices there is one factoring, and a Solve a point, or none where the plan is refused.
func TestFactoredOnce(t *testing.T) {
	d := dice(1831)
	met := map[string]int{}
	for k := range 900 {
		m := d.maker()
		f := m.circuit(plainKinds)
		o, q := d.options(), m.span(f)
		if k%3 == 0 {
			// Resistors of many digits, which are wide in the matrix.
			o.Limbs = 1
			for place, x := range f.Devs {
				if x.Kind == 'r' {
					f.Devs[place].Value = trimmed(int64(1+m.below(api.MaxMant)), -4)
				}
			}
		}
		l, c, at, err := sweep.Points(f, o, q)
		if c.Factors != 1 || c.Solves != int64(q.Count) && c.Solves != 0 || (c.Solves == 0) != (c.Pivots < int64(unknowns(f))) {
			t.Fatalf("%v: Points %v %v: Counts %v", f, o, q, c)
		}
		if err == api.OK && c.Solves == 0 || err == api.ErrSingular && c.Solves != 0 || err == api.ErrWide && c.Solves == 0 && at != 0 {
			t.Fatalf("%v: Points %v %v: Counts %v, error %d at %d", f, o, q, c, err, at)
		}
		word := outcome(text(l, c, at, err))
		if c.Solves == 0 {
			word += " of the plan"
		}
		met[word]++
	}
	enough(t, met, map[string]int{"ok": 300, "error 13": 20, "error 13 later": 10, "error 13 of the plan": 20, "error 140 of the plan": 50})
}

// P18.4: without bent devices twice a point is what the two beside it are together, but for 2.
func TestStraight(t *testing.T) {
	d := dice(1841)
	met := map[string]int{}
	for k := range 900 {
		m := d.maker()
		f := m.circuit(plainKinds)
		q := m.span(f)
		if q.Count = 3 + m.below(9); m.one(10) {
			q.Count = 256
		}
		if k == 0 {
			// A half at each point: 0.5, 1.5, 2.5 units and so on.
			f, q = laid(divider), sweep.Range{From: 1, By: 2, Count: 256}
		}
		l, _, _, err := sweep.Points(f, by(1), q)
		if err != api.OK {
			continue
		}
		met["ok"]++
		for at := 1; at+1 < len(l); at++ {
			for i, x := range l[at].X {
				off := 2*x - l[at-1].X[i] - l[at+1].X[i]
				if off < -2 || off > 2 {
					t.Fatalf("%v: Points %v: unknown %d is off by %d at %d", f, q, i, off, at)
				}
				met["off by "+string('2'+rune(off))]++
			}
		}
	}
	// By 1 and by 2, below 0 and above; so it is met that the points are rounded.
	enough(t, met, map[string]int{"ok": 350, "off by 0": 100, "off by 1": 200, "off by 3": 200, "off by 4": 100})
}

// held is the circuit whose source at the place says so many units of the grid, in units of ten to the power e.
func held(f api.Flat, place int, units int64, e int) api.Flat {
	f.Devs = slices.Clone(f.Devs)
	f.Devs[place].Wave = api.Wave{Kind: api.WaveDC, Vals: []api.Num{trimmed(units, e)}}
	return f
}

// trimmed is a right number, with no nought at its end.
func trimmed(mant int64, e int) api.Num {
	if mant == 0 {
		return api.Num{}
	}
	for mant%10 == 0 {
		mant, e = mant/10, e+1
	}
	return n(mant, e)
}

// P18.5: a range of one value is the operating point of the circuit whose source says just that, at once.
func TestARangeOfOneValue(t *testing.T) {
	d := dice(1851)
	met := map[string]int{}
	for k := range 1500 {
		m := d.maker()
		f := m.circuit([]string{bentKinds, bentKinds, plainKinds}[k%3])
		places, o, units, e := sources(f), d.options(), int64(m.below(400)-200), d.below(10)
		place := places[m.below(len(places))]
		v := units
		for range e {
			v *= 10
		}
		got := answer(f, o, sweep.Range{Dev: place, From: v, By: []int64{0, 1, -v, 1<<63 - 1, -1 << 63}[m.below(5)], Count: 1})
		state, c, err := oper.Point(held(f, place, units, e-9), o, 0, 1)
		want := text([]api.State{state}, c, 0, err)
		if err != api.OK {
			want = text(nil, c, 0, err)
		}
		if got != want {
			t.Fatalf("%v: %d at %d: %s, not %s", f, v, place, got, want)
		}
		met[outcome(got)]++
	}
	enough(t, met, map[string]int{"ok": 500, "error 13": 50, "error 140": 100, "error 160": 50})
}

// The points ahead don't hang on those behind them; with bent devices the Counts of them neither.
func TestTheFirstPointsOfARange(t *testing.T) {
	d := dice(1871)
	met := map[string]int{}
	for k := range 300 {
		m := d.maker()
		f := m.circuit([]string{bentKinds, plainKinds}[k%2])
		q := m.span(f)
		l, _, _, err := sweep.Points(f, by(4), q)
		if err != api.OK {
			continue
		}
		last := api.Counts{}
		for count := 1; count <= q.Count; count++ {
			few, c, at, err := sweep.Points(f, by(4), sweep.Range{Dev: q.Dev, From: q.From, By: q.By, Count: count})
			if got, want := text(few, api.Counts{}, at, err), text(l[:count], api.Counts{}, 0, api.OK); got != want {
				t.Fatalf("%v: the first %d of %v: %s, not %s", f, count, q, short(got), short(want))
			}
			if c.Solves <= last.Solves || c.Factors < last.Factors {
				t.Fatalf("%v: the first %d of %v: Counts %v behind %v", f, count, q, c, last)
			}
			last = c
		}
		met["ok"]++
	}
	enough(t, met, map[string]int{"ok": 120})
}

// Without bent devices a range the other way round has the same points in the other order, and so has none of its points a say in
// another one.
func TestPlainRangesTheOtherWayRound(t *testing.T) {
	d := dice(1872)
	met := map[string]int{}
	for range 300 {
		m := d.maker()
		f := m.circuit(plainKinds)
		q := m.span(f)
		l, c, at, err := sweep.Points(f, by(4), q)
		if err != api.OK {
			continue
		}
		slices.Reverse(l)
		for number := range l {
			l[number].Step = number
		}
		points(t, f, by(4), sweep.Range{Dev: q.Dev, From: q.From + int64(q.Count-1)*q.By, By: -q.By, Count: q.Count}, text(l, c, at, err))
		met["ok"]++
	}
	enough(t, met, map[string]int{"ok": 120})
}

// What the range's source says by itself makes no difference, nor what others say at steps behind the step 0.
func TestWavesThatHaveNoSay(t *testing.T) {
	d := dice(1873)
	met := map[string]int{}
	for k := range 300 {
		m := d.maker()
		f := m.circuit([]string{bentKinds, plainKinds}[k%2])
		q, o := m.span(f), d.options()
		want := answer(f, o, q)
		for _, own := range []string{"dc 7", "dc -1e9", "pulse 1 2 3 4 5 6 70", "pwl 3 1 9 2e9", "table 1n 2e9"} {
			other := held(f, q.Dev, 0, 0)
			other.Devs[q.Dev].Wave = dev("v v 0 0 " + own).Wave
			points(t, other, o, q, want)
			for _, place := range sources(f) {
				if place != q.Dev {
					now := f.Devs[place].Wave.Vals[0]
					other.Devs[place].Wave = api.Wave{Kind: api.WaveTable, Vals: []api.Num{now, n(2, 9), n(7, -3)}}
				}
			}
			points(t, other, o, q, want)
		}
		if t.Failed() {
			t.FailNow()
		}
		met[outcome(want)]++
	}
	enough(t, met, map[string]int{"ok": 100, "error 140": 10})
}

// W1: the order of the cards makes no difference to what is reported of a node or a device.
func TestTheOrderOfTheCards(t *testing.T) {
	for _, models := range []string{"", " / d1 b c d / s1 c 0 a b s / d2 0 b d / .model d d 1u 0.7 100m / .model s s 1u 2 1m"} {
		cards := []string{"v1 a 0 5", "r1 a b 1k", "r2 c 0 2k", "i1 b 0 1m", "l1 a e 1u", "c1 e b 1u", "r3 b c 1k"}
		bent, model, there := strings.Cut(strings.TrimPrefix(models, " / "), " / .model")
		if there {
			cards, model = append(cards, strings.Split(bent, " / ")...), " / .model"+model
		}
		want := map[string]string{}
		d := dice(1874)
		for round := range 40 {
			f := laid(strings.Join(cards, " / ") + model)
			place := slices.IndexFunc(f.Devs, func(x api.Dev) bool { return x.Name == "v1" })
			l, _, _, err := sweep.Points(f, api.Options{Limbs: 32, Iter: 20, Workers: 1 + round%16}, sweep.Range{Dev: place, From: -2 * volt, By: volt, Count: 9})
			if err != api.OK {
				t.Fatal(err)
			}
			for k, name := range f.Nodes[1:] {
				same(t, want, name, numbers(listOf(l, func(s api.State) int64 { return s.X[k] })))
			}
			for k, x := range f.Devs {
				same(t, want, "i of "+x.Name, numbers(listOf(l, func(s api.State) int64 { return s.I[k] })))
			}
			for k := range cards {
				other := d.below(len(cards))
				cards[k], cards[other] = cards[other], cards[k]
			}
		}
	}
}

// listOf is what is told of each point.
func listOf(l []api.State, what func(s api.State) int64) []int64 {
	var list []int64
	for _, s := range l {
		list = append(list, what(s))
	}
	return list
}

// same fails unless x is what was told by that name at first.
func same(t *testing.T, want map[string]string, name, x string) {
	t.Helper()
	told, met := want[name]
	if want[name] = x; met && told != x {
		t.Fatalf("%s: %s, not %s", name, x, told)
	}
}
