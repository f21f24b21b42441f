package wave_test

import (
	"slices"
	"testing"

	"shunt/api"
	"shunt/wave"
)

// roomy is w with spare room behind its lists, and something in it.
func roomy(w api.Wave) api.Wave {
	w.Vals = append(slices.Clone(w.Vals), n(77, 7), n(-10, 99))[:len(w.Vals)]
	w.Steps = append(slices.Clone(w.Steps), 777, -7)[:len(w.Steps)]
	return w
}

// whole is a copy of w with all that its lists hold, their spare room too.
func whole(w api.Wave) api.Wave {
	w.Vals = slices.Clone(w.Vals[:cap(w.Vals)])
	w.Steps = slices.Clone(w.Steps[:cap(w.Steps)])
	return w
}

func oneWave(a, b api.Wave) bool {
	return a.Kind == b.Kind && slices.Equal(a.Vals, b.Vals) && slices.Equal(a.Steps, b.Steps)
}

func scribble(w api.Wave) {
	for i := range w.Vals {
		w.Vals[i] = n(1234567, -6)
	}
	for i := range w.Steps {
		w.Steps[i] = 5 * (i + 1)
	}
}

// told is what each call answers of w at a step.
type told struct {
	valid, more bool
	at          int64
	err         api.Errno
	next        int
}

func tell(w api.Wave, step int) told {
	var a told
	a.valid = wave.Valid(w)
	a.at, a.err = wave.At(w, step)
	a.next, a.more = wave.Next(w, step)
	return a
}

// some are right waves and such as aren't.
func some() []api.Wave {
	d := dice(7)
	list := rights()
	for range 300 {
		w := d.wave()
		list = append(list, w)
		w.Kind = d.below(6)
		list = append(list, w)
	}
	return append(list, pwl(volts(1, 2), 4, 3), pulse(n(0, 0), n(1, 0), 0, 4, 4, 4, 11), table(n(10, 0)), table(volts(make([]int64, 17)...)...))
}

func TestWhatIsHandedInIsAsItWas(t *testing.T) {
	for _, w := range some() {
		w = roomy(w)
		was := whole(w)
		for _, step := range []int{-1, 0, 3, 500, api.MaxStep, api.MaxStep + 1} {
			tell(w, step)
			if !oneWave(whole(w), was) {
				t.Fatalf("%v is %v behind the calls at %d", was, whole(w), step)
			}
		}
	}
}

// What was handed in may be changed by its owner: no later answer hangs on it.
func TestNothingIsKept(t *testing.T) {
	for _, w := range some() {
		for _, step := range []int{0, 1, 6, 500, api.MaxStep} {
			first := roomy(w)
			want := tell(first, step)
			scribble(first)
			if got := tell(roomy(w), step); got != want {
				t.Fatalf("%v at %d: %v, and %v behind a scribble", w, step, want, got)
			}
			tell(first, step)
			if got := tell(w, step); got != want {
				t.Fatalf("%v at %d: %v, and %v behind calls of another", w, step, want, got)
			}
		}
	}
}

// The spare room has no say: a wave cut short of a longer one is as one that was made so.
func TestTheSpareRoomHasNoSay(t *testing.T) {
	for _, w := range some() {
		for _, step := range []int{0, 1, 6, 500, api.MaxStep} {
			if a, b := tell(w, step), tell(roomy(w), step); a != b {
				t.Fatalf("%v at %d: %v, and with spare room %v", w, step, a, b)
			}
		}
	}
}
