package oper_test

import (
	"fmt"
	"reflect"
	"runtime"
	"slices"
	"testing"
	"unsafe"

	"shunt/api"
	"shunt/oper"
)

// A span is a piece of memory.
type span struct {
	from, to uintptr
	what     string
}

// room is where a list lies, its spare room too.
func room[T any](l []T, what string) span {
	l = l[:cap(l)]
	from := uintptr(unsafe.Pointer(unsafe.SliceData(l)))
	return span{from, from + uintptr(len(l))*unsafe.Sizeof(*new(T)), what}
}

// apart fails if one of the pieces meets another.
func apart(t *testing.T, l ...span) {
	t.Helper()
	slices.SortFunc(l, func(a, b span) int { return int(int64(a.from) - int64(b.from)) })
	last := span{}
	for _, x := range l {
		if x.from == x.to {
			continue
		}
		if x.from < last.to {
			t.Fatalf("%q and %q share memory", last.what, x.what)
		}
		last = x
	}
}

func flatSpans(f api.Flat) []span {
	l := []span{room(f.Nodes, "nodes"), room(f.Devs, "devices")}
	for i, d := range f.Devs {
		what := fmt.Sprint(" of device ", i)
		l = append(l, room(d.Nodes, "nodes"+what), room(d.Wave.Vals, "Vals"+what), room(d.Wave.Steps, "Steps"+what), room(d.Model.G, "G"+what), room(d.Model.V, "V"+what))
	}
	return l
}

func stateSpans(s api.State, what string) []span {
	return []span{room(s.X, what+" X"), room(s.I, what+" I"), room(s.Segs, what+" Segs")}
}

// spare is l with spare room behind it, and something in it.
func spare[T any](l []T, more ...T) []T { return append(slices.Clone(l), more...)[:len(l)] }

// all is a copy of l with what its spare room holds.
func all[T any](l []T) []T { return slices.Clone(l[:cap(l)]) }

func scribbleOn[T any](l []T, with T) {
	l = l[:cap(l)]
	for i := range l {
		l[i] = with
	}
}

// roomy is a circuit like f whose lists have memory of their own, and spare room, with things in it that aren't right.
func roomy(f api.Flat) api.Flat {
	f.Nodes = spare(f.Nodes, "0", "")
	f.Devs = spare(f.Devs, api.Dev{}, api.Dev{Kind: 'd'})
	for i := range f.Devs {
		d := &f.Devs[i]
		d.Nodes = spare(d.Nodes, -1)
		d.Wave.Vals, d.Wave.Steps = spare(d.Wave.Vals, n(10, 0)), spare(d.Wave.Steps, -1)
		d.Model.G, d.Model.V = spare(d.Model.G, n(10, 0)), spare(d.Model.V, n(10, 0))
	}
	return f
}

// everything is a copy of all that f's lists hold, their spare rooms too.
func everything(f api.Flat) api.Flat {
	f.Nodes, f.Devs = all(f.Nodes), all(f.Devs)
	for i := range f.Devs {
		d := &f.Devs[i]
		d.Nodes, d.Wave.Vals, d.Wave.Steps, d.Model.G, d.Model.V = all(d.Nodes), all(d.Wave.Vals), all(d.Wave.Steps), all(d.Model.G), all(d.Model.V)
	}
	return f
}

// scribbleFlat writes over all that f's lists hold, their spare rooms too.
func scribbleFlat(f api.Flat) {
	for _, d := range f.Devs {
		scribbleOn(d.Nodes, 0)
		scribbleOn(d.Wave.Vals, n(10, 0))
		scribbleOn(d.Wave.Steps, -1)
		scribbleOn(d.Model.G, n(77, 0))
		scribbleOn(d.Model.V, n(77, 0))
	}
	scribbleOn(f.Devs, api.Dev{Kind: 'd', Name: "d"})
	scribbleOn(f.Nodes, "0")
}

func scribbleState(s api.State) {
	scribbleOn(s.X, 77)
	scribbleOn(s.I, 77)
	scribbleOn(s.Segs, 77)
}

// memoryCircuits are such with bent devices and without, most of which have an operating point.
func memoryCircuits() []api.Flat {
	d := dice(1751)
	l := []api.Flat{laid(divider), laid(""), laid("v1 a 0 5 / r1 a b 1k / d1 b 0 d / .model d d 1u 0.7 100m"), laid("v1 a 0 5 / r1 a b 1k / s1 b 0 b 0 s / .model s s 1n 2 1"), base()}
	for k := range 150 {
		l = append(l, d.maker().circuit([]string{bentKinds, plainKinds}[k%2]))
	}
	return l
}

// Lists of answers lie apart from one another and from what was handed in, with their spare rooms.
func TestNoTwoListsShareMemory(t *testing.T) {
	for _, own := range memoryCircuits() {
		f := roomy(own)
		for parts := range 3 {
			first, _, _ := oper.Point(f, by(5), 2, parts+1)
			second, _, _ := oper.Point(f, by(5), 2, parts+1)
			apart(t, slices.Concat(flatSpans(f), stateSpans(first, "the first point's"), stateSpans(second, "the second point's"))...)
			// Memory that nobody holds any more may be given anew.
			runtime.KeepAlive(first)
			runtime.KeepAlive(second)
		}
		runtime.KeepAlive(f)
	}
}

// P17.5: what is handed in is left as it was, its spare rooms too, which have no say. It may be written over behind the call;
// so may an answer.
func TestWhatIsHandedInIsLeftAsItWas(t *testing.T) {
	met := map[string]int{}
	for _, own := range memoryCircuits() {
		for parts := range 3 {
			want := answer(own, by(5), 3, parts+1)
			f := roomy(own)
			was := everything(f)
			state, counts, err := oper.Point(f, by(5), 3, parts+1)
			if now := everything(f); !reflect.DeepEqual(now, was) {
				t.Fatalf("%s is %s behind the call", short(was), short(now))
			}
			again, _, _ := oper.Point(f, by(5), 3, parts+1)
			scribbleFlat(f)
			scribbleState(again)
			if got := text(3, state, counts, err); got != want {
				t.Fatalf("%s: %s, not %s", short(own), short(got), short(want))
			}
			scribbleState(state)
			if now := answer(own, by(5), 3, parts+1); now != want {
				t.Fatalf("%s: %s, not %s: an answer changes with what becomes of another", short(own), short(now), short(want))
			}
			met[outcome(want)]++
		}
	}
	enough(t, met, map[string]int{"ok": 150, "error 140": 30, "error 160": 3})
}

// Devices that share memory as they are handed in make no difference.
func TestDevicesThatShareMemory(t *testing.T) {
	f := laid("v1 a 0 5 / r1 a b 1k / d1 b 0 d / d2 b 0 d / .model d d 1u 0.7 100m")
	want := answer(f, by(8), 0, 2)
	f.Devs[3].Model, f.Devs[3].Nodes = f.Devs[2].Model, f.Devs[2].Nodes
	points(t, f, by(8), 0, 2, want)
}
