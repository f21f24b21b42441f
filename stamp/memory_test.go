package stamp_test

import (
	"fmt"
	"reflect"
	"runtime"
	"slices"
	"testing"
	"unsafe"

	"shunt/api"
	"shunt/stamp"
)

// A span is a piece of memory.
type span struct {
	from, to uintptr
	what     string
}

// room is where a list lies, its spare room too.
func room[T any](l []T, what string) span {
	l = l[:cap(l)]
	from := uintptr(unsafe.Pointer(unsafe.SliceData(l)))
	return span{from, from + uintptr(len(l))*unsafe.Sizeof(*new(T)), what}
}

// lists are where all lists of a flat circuit lie.
func lists(f api.Flat) []span {
	l := []span{room(f.Nodes, "Nodes"), room(f.Devs, "Devs")}
	for _, d := range f.Devs {
		l = append(l, room(d.Nodes, d.Name+" Nodes"), room(d.Wave.Vals, d.Name+" Vals"), room(d.Wave.Steps, d.Name+" Steps"),
			room(d.Model.G, d.Name+" G"), room(d.Model.V, d.Name+" V"))
	}
	return l
}

// listsOf are where all lists of an answer lie.
func listsOf(l []api.Stamp, what string) []span {
	spans := []span{room(l, what)}
	for i, x := range l {
		spans = append(spans, room(x.Val.Num.Limbs, fmt.Sprint(what, i, " Num")), room(x.Val.Den.Limbs, fmt.Sprint(what, i, " Den")))
	}
	return spans
}

// apart fails if one of the pieces meets another.
func apart(t *testing.T, l ...span) {
	t.Helper()
	slices.SortFunc(l, func(a, b span) int { return int(int64(a.from) - int64(b.from)) })
	last := span{}
	for _, x := range l {
		if x.from == x.to {
			continue
		}
		if x.from < last.to {
			t.Fatalf("%q and %q share memory", last.what, x.what)
		}
		last = x
	}
}

// flats are some of each kind: right ones and others.
func flats() []api.Flat {
	l := []api.Flat{{}, hand("0"), hand("0 a b"), base(), every(), full(), with(full(), "l one_more 1 0 1"), laid("v1 a a 1")}
	d := dice(117)
	for len(l) < 200 {
		f := d.flat(0)
		if d.one(5) {
			d.change(&f)
		}
		l = append(l, f)
	}
	return l
}

// answers are what both calls tell of all devices of f in a setting, errors left out.
func answers(f api.Flat, s api.Setting, seg int) [][]api.Stamp {
	var l [][]api.Stamp
	for k := range f.Devs {
		one, _ := stamp.Of(f, k, s, seg)
		two, _ := stamp.Current(f, k, seg)
		l = append(l, one, two)
	}
	return l
}

// texts are answers as they are told.
func texts(l [][]api.Stamp) []string {
	var parts []string
	for _, one := range l {
		parts = append(parts, text(one))
	}
	return parts
}

// Lists of answers lie apart from one another and from the flat circuit's, with their spare rooms.
func TestNoTwoListsShareMemory(t *testing.T) {
	for i, f := range flats() {
		f = roomy(f)
		for _, s := range settings()[:3] {
			one, two := answers(f, s, i%2), answers(f, s, i%2)
			spans := lists(f)
			for k := range one {
				spans = append(spans, listsOf(one[k], fmt.Sprint("answer ", k, " "))...)
				spans = append(spans, listsOf(two[k], fmt.Sprint("answer again ", k, " "))...)
			}
			apart(t, spans...)
			// Memory that nobody holds any more may be given anew.
			runtime.KeepAlive(f)
			runtime.KeepAlive(one)
			runtime.KeepAlive(two)
		}
	}
}

// spare is l with spare room behind it, and something in it.
func spare[T any](l []T, more ...T) []T { return append(slices.Clone(l), more...)[:len(l)] }

// roomy is a flat circuit like f whose lists have spare room, with things in it that aren't right.
func roomy(f api.Flat) api.Flat {
	f.Nodes, f.Devs = spare(f.Nodes, "0", "Spare"), spare(f.Devs, api.Dev{Kind: 'v', Name: "spare"})
	for i, d := range f.Devs {
		x := &f.Devs[i]
		x.Nodes = spare(d.Nodes, -1, 99)
		x.Wave.Vals, x.Wave.Steps = spare(d.Wave.Vals, n(10, 99)), spare(d.Wave.Steps, -1)
		x.Model.G, x.Model.V = spare(d.Model.G, n(10, 99)), spare(d.Model.V, n(10, 99))
	}
	return f
}

// all is a copy of l with what its spare room holds.
func all[T any](l []T) []T { return slices.Clone(l[:cap(l)]) }

// whole is a copy of f with all that its lists hold, their spare rooms too.
func whole(f api.Flat) api.Flat {
	f.Nodes, f.Devs = all(f.Nodes), all(f.Devs)
	for i, d := range f.Devs {
		x := &f.Devs[i]
		x.Nodes, x.Wave.Vals, x.Wave.Steps, x.Model.G, x.Model.V = all(d.Nodes), all(d.Wave.Vals), all(d.Wave.Steps), all(d.Model.G), all(d.Model.V)
	}
	return f
}

func fill[T any](l []T, with T) {
	l = l[:cap(l)]
	for i := range l {
		l[i] = with
	}
}

// scribble writes over all that a flat circuit's lists hold, their spare rooms too.
func scribble(f api.Flat) {
	for _, d := range f.Devs {
		fill(d.Nodes, 77)
		fill(d.Wave.Vals, n(77, 3))
		fill(d.Wave.Steps, 77)
		fill(d.Model.G, n(77, 3))
		fill(d.Model.V, n(77, 3))
	}
	fill(f.Nodes, "scribble")
	fill(f.Devs, api.Dev{Name: "scribble"})
}

// scribbleStamps writes over all that an answer holds.
func scribbleStamps(l []api.Stamp) {
	for _, x := range l {
		fill(x.Val.Num.Limbs, 77)
		fill(x.Val.Den.Limbs, 78)
	}
	fill(l, api.Stamp{Kind: 77})
}

// P11.5: a flat circuit is left as it was, its spare rooms too, which have no say; neither what becomes of it nor what
// becomes of an answer is to be seen in another answer.
func TestFlatsAreLeftAsTheyWere(t *testing.T) {
	l := flats()
	for i, own := range l {
		for _, s := range settings()[:3] {
			f := roomy(own)
			was := whole(f)
			got := answers(f, s, i%2)
			if !reflect.DeepEqual(whole(f), was) {
				t.Fatalf("%v is %v behind the calls", was, whole(f))
			}
			want := texts(got)
			answers(l[(i+7)%len(l)], s, 0)
			scribble(f)
			if !slices.Equal(texts(got), want) {
				t.Fatalf("%v: an answer changes with what becomes of the flat circuit", own)
			}
			for k := range got {
				scribbleStamps(got[k])
				if !slices.Equal(texts(got[k+1:]), want[k+1:]) {
					t.Fatalf("%v: an answer changes with what becomes of another", own)
				}
			}
			if again := texts(answers(own, s, i%2)); !slices.Equal(again, want) {
				t.Fatalf("%v: %v, and %v behind a scribble", own, want, again)
			}
		}
	}
}

// One stamp's fraction written over leaves those of the others in its answer.
func TestStampsOfOneAnswer(t *testing.T) {
	f := every()
	for k := range f.Devs {
		for i := range 9 {
			l, err := stamp.Of(f, k, trap("1m"), 1)
			if err != api.OK {
				t.Fatal(err)
			}
			want := text(l)
			if i >= len(l) {
				break
			}
			scribbleStamps(l[i : i+1 : i+1])
			l[i] = meant(f, k, trap("1m"), 1)[i]
			if text(l) != want {
				t.Errorf("%d: %s, not %s", k, text(l), want)
			}
		}
	}
}

// Nothing is kept: calls between two others make no difference to them, nor do calls at the same time.
func TestNothingIsKept(t *testing.T) {
	l := flats()[:60]
	var first [][]string
	for _, f := range l {
		first = append(first, texts(answers(f, trap("3"), 0)))
	}
	done := make(chan bool)
	for range 4 {
		go func() {
			fine := true
			for i := range l {
				i = len(l) - 1 - i
				answers(l[i], euler("2"), 1)
				fine = fine && slices.Equal(texts(answers(l[i], trap("3"), 0)), first[i])
			}
			done <- fine
		}()
	}
	for range 4 {
		if !<-done {
			t.Error("another answer behind other calls")
		}
	}
}
