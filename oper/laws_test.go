package oper_test

import (
	"strings"
	"testing"

	"shunt/api"
	"shunt/oper"
)

// enough fails unless each word was met so often.
func enough(t *testing.T, met, want map[string]int) {
	t.Helper()
	for word, count := range want {
		if met[word] < count {
			t.Errorf("%s: %d times, not %d", word, met[word], count)
		}
	}
}

// outcome is the word under which an answer is counted.
func outcome(answer string) string {
	if is, _, _ := strings.Cut(answer, " | "); strings.HasPrefix(is, "error") {
		return is
	}
	return "ok"
}

// P17.1: what Point answers is what the chapter's words come to, step by step and part by part.
func TestPointsAreWhatIsMeant(t *testing.T) {
	d := dice(1711)
	met := map[string]int{}
	for k := range 2000 {
		f := d.maker().circuit([]string{bentKinds, bentKinds, bentKinds, plainKinds}[k%4])
		o, step, parts := d.options(), d.step(), d.parts()
		got, want := answer(f, o, step, parts), meant(f, o, step, parts)
		if got != want {
			t.Fatalf("%v: Point %v %d %d: %s, not %s", f, o, step, parts, got, want)
		}
		met[outcome(got)]++
		if parts > 1 && outcome(got) == "ok" && strings.Contains(got, "1]") {
			met["bent, in parts"]++
		}
	}
	enough(t, met, map[string]int{"ok": 700, "error 1": 30, "error 4": 20, "error 13": 40, "error 140": 100, "error 160": 60, "bent, in parts": 100})
}

// P17.1: of circuits whose sources say few units, so that the parts' rounding leads the choices.
func TestSmallSources(t *testing.T) {
	d := dice(1712)
	met := map[string]int{}
	for range 600 {
		f := maker{&d, "n", false}.circuit("dsrdsrvi")
		o := by(1 + d.below(4))
		for parts := range 5 {
			got := answer(f, o, 0, parts+1)
			if want := meant(f, o, 0, parts+1); got != want {
				t.Fatalf("%v: Point %v 0 %d: %s, not %s", f, o, parts+1, got, want)
			}
			met[outcome(got)]++
		}
	}
	enough(t, met, map[string]int{"ok": 1000, "error 140": 50, "error 160": 200})
}

// P17.2: at rest no current goes through a capacitor, and both ends of an inductor stand at one voltage.
func TestAtRest(t *testing.T) {
	d := dice(1721)
	met := map[string]int{}
	for range 1500 {
		f := d.maker().circuit(slowKinds)
		s, _, err := oper.Point(f, by(8), d.below(12), 1+d.below(5))
		if err != api.OK {
			continue
		}
		met["ok"]++
		for k, x := range f.Devs {
			met[string(x.Kind)]++
			if x.Kind == 'c' && s.I[k] != 0 || x.Kind == 'l' && at(s, x.Nodes[0]) != at(s, x.Nodes[1]) {
				t.Fatalf("%v: device %d: %s", f, k, stateText(s))
			}
		}
	}
	enough(t, met, map[string]int{"ok": 400, "c": 300, "l": 150, "d": 100, "s": 100})
}

// at is what is reported of a node.
func at(s api.State, node int) int64 {
	if node == 0 {
		return 0
	}
	return s.X[node-1]
}

// P17.3: without bent devices the number of parts makes no difference to the state, and there is one factoring.
func TestPlainCircuitsInParts(t *testing.T) {
	d := dice(1731)
	met := map[string]int{}
	for range 900 {
		f := d.maker().circuit(plainKinds)
		o, step := by(1+d.below(64)), d.below(12)
		s, c, err := oper.Point(f, o, step, 1)
		for _, parts := range []int{1, 2, 3, 7, 64} {
			again, counts, errAgain := oper.Point(f, o, step, parts)
			if err != errAgain || text(step, again, api.Counts{}, err) != text(step, s, api.Counts{}, err) {
				t.Fatalf("%v: in %d parts: %s, error %d, not %s, error %d", f, parts, stateText(again), errAgain, stateText(s), err)
			}
			want := c
			if err != api.ErrSingular {
				want.Solves = int64(parts)
			}
			if counts != want || counts.Factors != 1 {
				t.Fatalf("%v: in %d parts: %v, not %v", f, parts, counts, want)
			}
		}
		met[outcome(text(step, s, c, err))]++
	}
	enough(t, met, map[string]int{"ok": 300, "error 140": 50})
}

// P17.4: with no source but DC ones the step makes no difference but for State's Step.
func TestDCSourcesAtAnyStep(t *testing.T) {
	d := dice(1741)
	met := map[string]int{}
	for range 500 {
		f := maker{&d, d.of("", "n"), false}.circuit(bentKinds)
		o, parts := d.options(), 1+d.below(4)
		want := answer(f, o, 0, parts)
		for _, step := range []int{1, 2, 7, 1000, 1 << 20, api.MaxStep - 1, api.MaxStep} {
			points(t, f, o, step, parts, want)
		}
		if t.Failed() {
			t.FailNow()
		}
		met[outcome(want)]++
	}
	enough(t, met, map[string]int{"ok": 200, "error 13": 10, "error 140": 10, "error 160": 20})
}

// W1: neither the number of workers nor the order of the cards makes a difference to what is reported of a node or a device.
func TestWorkersAndTheOrderOfTheCards(t *testing.T) {
	cards := []string{"v1 a 0 5", "r1 a b 1k", "d1 b c d", "s1 c 0 a b s", "r2 c 0 2k", "d2 0 b d", "i1 b 0 1m", "l1 a e 1u", "c1 e b 1u"}
	want := map[string]int64{}
	d := dice(1761)
	for round := range 60 {
		f := laid(strings.Join(cards, " / ") + " / .model d d 1u 0.7 100m / .model s s 1 2 1m")
		s, _, err := oper.Point(f, api.Options{Limbs: 32, Iter: 20, Workers: 1 + round%16}, 0, 1+round/30)
		if err != api.OK {
			t.Fatal(err)
		}
		for k, name := range f.Nodes[1:] {
			same(t, want, name, s.X[k])
		}
		for k, x := range f.Devs {
			same(t, want, "i of "+x.Name, s.I[k])
		}
		for k := range cards {
			other := d.below(len(cards))
			cards[k], cards[other] = cards[other], cards[k]
		}
	}
}

// same fails unless x is what was told by that name at first.
func same(t *testing.T, want map[string]int64, name string, x int64) {
	t.Helper()
	told, met := want[name]
	if want[name] = x; met && told != x {
		t.Fatalf("%s: %d, not %d", name, x, told)
	}
}
