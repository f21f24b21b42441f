package topo_test

import (
	"reflect"
	"runtime"
	"slices"
	"testing"
	"unsafe"

	"shunt/api"
	"shunt/topo"
)

// A span is a piece of memory.
type span struct {
	from, to uintptr
	what     string
}

// room is where a list lies, its spare room too.
func room[T any](l []T, what string) span {
	l = l[:cap(l)]
	from := uintptr(unsafe.Pointer(unsafe.SliceData(l)))
	return span{from, from + uintptr(len(l))*unsafe.Sizeof(*new(T)), what}
}

// lists are where all lists of a flat circuit lie.
func lists(f api.Flat) []span {
	l := []span{room(f.Nodes, "Nodes"), room(f.Devs, "Devs")}
	for _, d := range f.Devs {
		l = append(l, room(d.Nodes, d.Name+" Nodes"), room(d.Wave.Vals, d.Name+" Vals"), room(d.Wave.Steps, d.Name+" Steps"),
			room(d.Model.G, d.Name+" G"), room(d.Model.V, d.Name+" V"))
	}
	return l
}

// apart fails if one of the pieces meets another.
func apart(t *testing.T, l ...span) {
	t.Helper()
	slices.SortFunc(l, func(a, b span) int { return int(int64(a.from) - int64(b.from)) })
	last := span{}
	for _, x := range l {
		if x.from == x.to {
			continue
		}
		if x.from < last.to {
			t.Fatalf("%q and %q share memory", last.what, x.what)
		}
		last = x
	}
}

// flats are some of each kind: right ones and others.
func flats() []api.Flat {
	l := []api.Flat{{}, hand("0"), hand("0 a b"), base(), full(), with(full(), "l one_more 1 0 1"), laid("v1 a a 1"), laid(count("v# a 0 1", 1, 47)), laid(count("i# n# 0 1", 1, 31))}
	d := dice(106)
	for len(l) < 400 {
		f := d.flat(30)
		if d.one(5) {
			d.change(&f)
		}
		l = append(l, f)
	}
	return l
}

// The lists of answers lie apart from one another and from the flat circuit's, with their spare rooms.
func TestNoTwoListsShareMemory(t *testing.T) {
	for _, f := range flats() {
		f = roomy(f)
		for _, mode := range append(modes(), 3) {
			one, two := tell(f, mode), tell(f, mode)
			apart(t, append(lists(f), room(one.floats, "floats"), room(one.loops, "loops"), room(two.floats, "floats again"), room(two.loops, "loops again"))...)
			// Memory that nobody holds any more may be given anew.
			runtime.KeepAlive(f)
			runtime.KeepAlive(one)
			runtime.KeepAlive(two)
		}
	}
}

// spare is l with spare room behind it, and something in it.
func spare[T any](l []T, more ...T) []T { return append(slices.Clone(l), more...)[:len(l)] }

// roomy is a flat circuit like f whose lists have spare room, with things in it that aren't right.
func roomy(f api.Flat) api.Flat {
	f.Nodes, f.Devs = spare(f.Nodes, "0", "Spare"), spare(f.Devs, api.Dev{Kind: 'v', Name: "spare"})
	for i, d := range f.Devs {
		x := &f.Devs[i]
		x.Nodes = spare(d.Nodes, -1, 99)
		x.Wave.Vals, x.Wave.Steps = spare(d.Wave.Vals, n(10, 99)), spare(d.Wave.Steps, -1)
		x.Model.G, x.Model.V = spare(d.Model.G, n(10, 99)), spare(d.Model.V, n(10, 99))
	}
	return f
}

// all is a copy of l with what its spare room holds.
func all[T any](l []T) []T { return slices.Clone(l[:cap(l)]) }

// whole is a copy of f with all that its lists hold, their spare rooms too.
func whole(f api.Flat) api.Flat {
	f.Nodes, f.Devs = all(f.Nodes), all(f.Devs)
	for i, d := range f.Devs {
		x := &f.Devs[i]
		x.Nodes, x.Wave.Vals, x.Wave.Steps, x.Model.G, x.Model.V = all(d.Nodes), all(d.Wave.Vals), all(d.Wave.Steps), all(d.Model.G), all(d.Model.V)
	}
	return f
}

func fill[T any](l []T, with T) {
	l = l[:cap(l)]
	for i := range l {
		l[i] = with
	}
}

// scribble writes over all that a flat circuit's lists hold, their spare rooms too.
func scribble(f api.Flat) {
	for _, d := range f.Devs {
		fill(d.Nodes, 77)
		fill(d.Wave.Vals, n(77, 3))
		fill(d.Wave.Steps, 77)
		fill(d.Model.G, n(77, 3))
		fill(d.Model.V, n(77, 3))
	}
	fill(f.Nodes, "scribble")
	fill(f.Devs, api.Dev{Name: "scribble"})
}

// P10.5: a flat circuit is left as it was, its spare rooms too, which have no say; neither what becomes of it nor what
// becomes of an answer is to be seen in another answer.
func TestFlatsAreLeftAsTheyWere(t *testing.T) {
	l := flats()
	for i, own := range l {
		for _, mode := range append(modes(), 0) {
			f := roomy(own)
			was := whole(f)
			got := tell(f, mode)
			if !reflect.DeepEqual(whole(f), was) {
				t.Fatalf("%v is %v behind the calls", was, whole(f))
			}
			want := got
			want.floats, want.loops = slices.Clone(got.floats), slices.Clone(got.loops)
			other := l[(i+7)%len(l)]
			tell(other, mode)
			scribble(f)
			if !got.is(want) {
				t.Fatalf("%v: an answer changes with what becomes of the flat circuit", own)
			}
			fill(got.floats, 77)
			if !slices.Equal(got.loops, want.loops) {
				t.Fatalf("%v: loops change with floats", own)
			}
			fill(got.loops, 77)
			if again := tell(own, mode); !again.is(want) {
				t.Fatalf("%v: %v, and %v behind a scribble", own, want, again)
			}
		}
	}
}

// Nothing is kept: calls between two others make no difference to them, nor do calls at the same time.
func TestNothingIsKept(t *testing.T) {
	l := flats()[:60]
	var first [2][]told
	for i, mode := range modes() {
		for _, f := range l {
			first[i] = append(first[i], tell(f, mode))
		}
	}
	done := make(chan bool)
	for range 4 {
		go func() {
			fine := true
			for k := range l {
				k = len(l) - 1 - k
				for i, mode := range modes() {
					fine = fine && tell(l[k], mode).is(first[i][k])
				}
				topo.Check(l[k], 3)
			}
			done <- fine
		}()
	}
	for range 4 {
		if !<-done {
			t.Error("another answer behind other calls")
		}
	}
}
