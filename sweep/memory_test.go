package sweep_test

import (
	"fmt"
	"reflect"
	"runtime"
	"slices"
	"testing"
	"unsafe"

	"shunt/api"
	"shunt/sweep"
)

// A span is a piece of memory.
type span struct {
	from, to uintptr
	what     string
}

// room is where a list lies, its spare room too.
func room[T any](l []T, what string) span {
	l = l[:cap(l)]
	from := uintptr(unsafe.Pointer(unsafe.SliceData(l)))
	return span{from, from + uintptr(len(l))*unsafe.Sizeof(*new(T)), what}
}

// apart fails if one of the pieces meets another.
func apart(t *testing.T, l ...span) {
	t.Helper()
	slices.SortFunc(l, func(a, b span) int { return int(int64(a.from) - int64(b.from)) })
	last := span{}
	for _, x := range l {
		if x.from == x.to {
			continue
		}
		if x.from < last.to {
			t.Fatalf("%q and %q share memory", last.what, x.what)
		}
		last = x
	}
}

func flatSpans(f api.Flat) []span {
	l := []span{room(f.Nodes, "nodes"), room(f.Devs, "devices")}
	for i, d := range f.Devs {
		what := fmt.Sprint(" of device ", i)
		l = append(l, room(d.Nodes, "nodes"+what), room(d.Wave.Vals, "Vals"+what), room(d.Wave.Steps, "Steps"+what), room(d.Model.G, "G"+what), room(d.Model.V, "V"+what))
	}
	return l
}

// answerSpans are those of an answer, with the states behind its end.
func answerSpans(l []api.State, what string) []span {
	list := []span{room(l, what)}
	for number, s := range l[:cap(l)] {
		of := fmt.Sprint(what, ", point ", number)
		list = append(list, room(s.X, of+" X"), room(s.I, of+" I"), room(s.Segs, of+" Segs"))
	}
	return list
}

// spare is l with spare room behind it, and something in it.
func spare[T any](l []T, more ...T) []T { return append(slices.Clone(l), more...)[:len(l)] }

// all is a copy of l with what its spare room holds.
func all[T any](l []T) []T { return slices.Clone(l[:cap(l)]) }

func scribbleOn[T any](l []T, with T) {
	l = l[:cap(l)]
	for i := range l {
		l[i] = with
	}
}

// roomy is a circuit like f whose lists have memory of their own, and spare room, with things in it that aren't right.
func roomy(f api.Flat) api.Flat {
	f.Nodes = spare(f.Nodes, "0", "")
	f.Devs = spare(f.Devs, api.Dev{}, api.Dev{Kind: 'd'})
	for i := range f.Devs {
		d := &f.Devs[i]
		d.Nodes = spare(d.Nodes, -1)
		d.Wave.Vals, d.Wave.Steps = spare(d.Wave.Vals, n(10, 0)), spare(d.Wave.Steps, -1)
		d.Model.G, d.Model.V = spare(d.Model.G, n(10, 0)), spare(d.Model.V, n(10, 0))
	}
	return f
}

// everything is a copy of all that f's lists hold, their spare rooms too.
func everything(f api.Flat) api.Flat {
	f.Nodes, f.Devs = all(f.Nodes), all(f.Devs)
	for i := range f.Devs {
		d := &f.Devs[i]
		d.Nodes, d.Wave.Vals, d.Wave.Steps, d.Model.G, d.Model.V = all(d.Nodes), all(d.Wave.Vals), all(d.Wave.Steps), all(d.Model.G), all(d.Model.V)
	}
	return f
}

// scribbleFlat writes over all that f's lists hold, their spare rooms too.
func scribbleFlat(f api.Flat) {
	for _, d := range f.Devs {
		scribbleOn(d.Nodes, 0)
		scribbleOn(d.Wave.Vals, n(10, 0))
		scribbleOn(d.Wave.Steps, -1)
		scribbleOn(d.Model.G, n(77, 0))
		scribbleOn(d.Model.V, n(77, 0))
	}
	scribbleOn(f.Devs, api.Dev{Kind: 'd', Name: "d"})
	scribbleOn(f.Nodes, "0")
}

func scribbleAnswer(l []api.State) {
	for _, s := range l[:cap(l)] {
		scribbleOn(s.X, 77)
		scribbleOn(s.I, 77)
		scribbleOn(s.Segs, 77)
	}
	scribbleOn(l, api.State{Step: 77})
}

// A sweeping is a circuit, and a range over one of its sources.
type sweeping struct {
	f api.Flat
	q sweep.Range
}

// memorySweepings are such with bent devices and without, most of which have all points.
func memorySweepings() []sweeping {
	d := dice(1861)
	l := []sweeping{
		{laid(divider), sweep.Range{From: -volt, By: volt, Count: 9}},
		{laid(diode), sweep.Range{From: -volt, By: volt, Count: 9}},
		{laid("i1 a 0 5 / r1 a 0 1k"), sweep.Range{By: 7, Count: 256}},
		{laid("i1 0 0 5 / d1 0 0 d / .model d d 1"), sweep.Range{By: 7, Count: 5}},
		{base(), sweep.Range{By: 7, Count: 3}},
	}
	for k := range 150 {
		m := d.maker()
		f := m.circuit([]string{bentKinds, plainKinds}[k%2])
		if k%3 == 0 {
			f = m.steep()
		}
		l = append(l, sweeping{f, m.span(f)})
	}
	return l
}

// Lists of answers lie apart from one another and from what was handed in, with their spare rooms.
func TestNoTwoListsShareMemory(t *testing.T) {
	for _, x := range memorySweepings() {
		f := roomy(x.f)
		first, _, _, _ := sweep.Points(f, by(5), x.q)
		second, _, _, _ := sweep.Points(f, by(5), x.q)
		apart(t, slices.Concat(flatSpans(f), answerSpans(first, "the first answer"), answerSpans(second, "the second answer"))...)
		// Memory that nobody holds any more may be given anew.
		runtime.KeepAlive(first)
		runtime.KeepAlive(second)
		runtime.KeepAlive(f)
	}
}

// P18.6: what is handed in is left as it was, its spare rooms too, which have no say. It may be written over behind the call;
// so may an answer.
func TestWhatIsHandedInIsLeftAsItWas(t *testing.T) {
	met := map[string]int{}
	for k, x := range memorySweepings() {
		o := api.Options{Limbs: 32, Iter: 5, Workers: 1 + k%16}
		want := answer(x.f, o, x.q)
		f := roomy(x.f)
		was := everything(f)
		l, counts, at, err := sweep.Points(f, o, x.q)
		if now := everything(f); !reflect.DeepEqual(now, was) {
			t.Fatalf("%s is %s behind the call", short(was), short(now))
		}
		again, _, _, _ := sweep.Points(f, o, x.q)
		scribbleFlat(f)
		scribbleAnswer(again)
		if got := text(l, counts, at, err); got != want {
			t.Fatalf("%s: %s, not %s", short(x.f), short(got), short(want))
		}
		scribbleAnswer(l)
		if now := answer(x.f, o, x.q); now != want {
			t.Fatalf("%s: %s, not %s: an answer changes with what becomes of another", short(x.f), short(now), short(want))
		}
		met[outcome(want)]++
	}
	enough(t, met, map[string]int{"ok": 60, "error 140": 8, "error 160": 2})
}

// A list of an answer may be written over without a trace in the others of it.
func TestListsOfOneAnswerAreTheirOwn(t *testing.T) {
	for _, x := range memorySweepings() {
		l, _, _, err := sweep.Points(x.f, by(5), x.q)
		if err != api.OK {
			continue
		}
		want := fmt.Sprint(l)
		for number := range l {
			s := &l[number]
			was := api.State{Step: s.Step, X: slices.Clone(s.X), I: slices.Clone(s.I), Segs: slices.Clone(s.Segs)}
			scribbleOn(s.X, 77)
			scribbleOn(s.I, 77)
			scribbleOn(s.Segs, 77)
			*s = was
			if got := fmt.Sprint(l); got != want {
				t.Fatalf("%s: %s, not %s", short(x.f), short(got), short(want))
			}
		}
	}
}

// Devices that share memory as they are handed in make no difference.
func TestDevicesThatShareMemory(t *testing.T) {
	f := laid("v1 a 0 5 / r1 a b 1k / d1 b 0 d / d2 b 0 d / i1 0 b 5 / .model d d 1u 0.7 100m")
	q := sweep.Range{From: -volt, By: volt, Count: 4}
	want := answer(f, by(8), q)
	f.Devs[3].Model, f.Devs[3].Nodes = f.Devs[2].Model, f.Devs[2].Nodes
	f.Devs[4].Wave = f.Devs[0].Wave
	points(t, f, by(8), q, want)
}
