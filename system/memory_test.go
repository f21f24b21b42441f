package system_test

import (
	"fmt"
	"reflect"
	"runtime"
	"slices"
	"testing"
	"unsafe"

	"shunt/api"
	"shunt/limb"
	"shunt/system"
)

// A span is a piece of memory.
type span struct {
	from, to uintptr
	what     string
}

// room is where a list lies, its spare room too.
func room[T any](l []T, what string) span {
	l = l[:cap(l)]
	from := uintptr(unsafe.Pointer(unsafe.SliceData(l)))
	return span{from, from + uintptr(len(l))*unsafe.Sizeof(*new(T)), what}
}

// flatLists are where all lists of a flat circuit lie.
func flatLists(f api.Flat) []span {
	l := []span{room(f.Nodes, "Nodes"), room(f.Devs, "Devs")}
	for _, d := range f.Devs {
		l = append(l, room(d.Nodes, d.Name+" Nodes"), room(d.Wave.Vals, d.Name+" Vals"), room(d.Wave.Steps, d.Name+" Steps"),
			room(d.Model.G, d.Name+" G"), room(d.Model.V, d.Name+" V"))
	}
	return l
}

// rowsLists are where all lists of a system lie.
func rowsLists(s api.System, what string) []span {
	l := []span{room(s.Rows, what+" Rows")}
	for i, row := range s.Rows {
		name := fmt.Sprint(what, " row ", i)
		l = append(l, room(row.Mult.Limbs, name+" Mult"), room(row.K.Limbs, name+" K"), room(row.A, name+" A"), room(row.H, name+" H"), room(row.S, name+" S"))
		for _, c := range slices.Concat(row.A, row.H, row.S) {
			l = append(l, room(c.Val.Limbs, fmt.Sprint(name, " cell ", c.Col)))
		}
	}
	return l
}

// intsLists are where all lists of a right side lie.
func intsLists(ints []api.Int, what string) []span {
	l := []span{room(ints, what)}
	for i, a := range ints {
		l = append(l, room(a.Limbs, fmt.Sprint(what, " ", i)))
	}
	return l
}

// apart fails if one of the pieces meets another.
func apart(t *testing.T, l ...span) {
	t.Helper()
	slices.SortFunc(l, func(a, b span) int { return int(int64(a.from) - int64(b.from)) })
	last := span{}
	for _, x := range l {
		if x.from == x.to {
			continue
		}
		if x.from < last.to {
			t.Fatalf("%q and %q share memory", last.what, x.what)
		}
		last = x
	}
}

// flats are some of each kind: right ones and others.
func flats() []api.Flat {
	l := []api.Flat{{}, hand("0"), hand("0 a b"), base(), every(), fullFlat(), longest(), with(fullFlat(), "l one_more 1 0 1"), laid("v1 a a 1")}
	d := dice(131)
	for len(l) < 150 {
		f := d.flat()
		if d.one(5) {
			d.change(&f)
		}
		l = append(l, f)
	}
	return l
}

// An ask is all that the calls are handed in.
type ask struct {
	flat      api.Flat
	setting   api.Setting
	segs      []int
	system    api.System
	prev, src []int64
}

// An answer is all that the calls tell.
type answer struct {
	bent   []int
	system api.System
	sides  []api.Int
	said   []int64
	errors [4]api.Errno
}

func (a ask) answer() answer {
	var out answer
	out.bent = system.Bent(a.flat)
	out.system, out.errors[0] = system.Build(a.flat, a.setting, a.segs)
	out.said, out.errors[1] = system.Sources(a.flat, 3)
	out.sides, out.errors[2] = system.Rhs(a.system, a.prev, a.src)
	out.errors[3] = system.Check(a.system)
	return out
}

func (a answer) String() string {
	return fmt.Sprint(a.bent, text(a.system), list(a.sides), a.said, a.errors)
}

// lists are where all lists of an answer lie.
func (a answer) lists(what string) []span {
	l := append(rowsLists(a.system, what), intsLists(a.sides, what+" side")...)
	return append(l, room(a.bent, what+" bent"), room(a.said, what+" said"))
}

func (a ask) lists() []span {
	l := append(flatLists(a.flat), rowsLists(a.system, "given")...)
	return append(l, room(a.segs, "segs"), room(a.prev, "prev"), room(a.src, "src"))
}

// asks are some of each kind, of which some are refused.
func asks() []ask {
	var l []ask
	d := dice(132)
	for _, f := range flats() {
		a := ask{flat: f, setting: d.setting(), segs: d.segments(f), system: d.system(60)}
		if made, err := system.Build(f, a.setting, a.segs); err == api.OK && d.one(2) {
			a.system = made
		}
		a.prev, a.src = d.grid(len(a.system.Rows), 1), d.grid(64, 1)
		switch d.below(9) {
		case 0:
			a.segs = append(a.segs, 0)
		case 1:
			a.prev = append(a.prev, 0)
		case 2:
			a.src[9] = most + 1
		case 3:
			a.system.Rows = append(slices.Clone(a.system.Rows), api.Row{})
		}
		l = append(l, a)
	}
	return l
}

// spare is l with spare room behind it, and something in it.
func spare[T any](l []T, more ...T) []T { return append(slices.Clone(l), more...)[:len(l)] }

func spareInt(a api.Int) api.Int { return api.Int{Neg: a.Neg, Limbs: spare(a.Limbs, 5, 0)} }

func spareCells(l []api.Cell) []api.Cell {
	out := spare(l, api.Cell{Col: -1, Val: limb.Of(1)})
	for i := range out {
		out[i].Val = spareInt(out[i].Val)
	}
	return out
}

// roomy is an ask like a whose lists have memory of their own, and spare room, with things in it that aren't right.
func (a ask) roomy() ask {
	f := &a.flat
	f.Nodes, f.Devs = spare(f.Nodes, "0", "Spare"), spare(f.Devs, api.Dev{Kind: 'v', Name: "spare"})
	for i, d := range f.Devs {
		x := &f.Devs[i]
		x.Nodes = spare(d.Nodes, -1, 99)
		x.Wave.Vals, x.Wave.Steps = spare(d.Wave.Vals, n(10, 99)), spare(d.Wave.Steps, -1)
		x.Model.G, x.Model.V = spare(d.Model.G, n(10, 99)), spare(d.Model.V, n(10, 99))
	}
	a.segs, a.prev, a.src = spare(a.segs, -1, 9), spare(a.prev, most+1), spare(a.src, most+1)
	a.system.Rows = spare(a.system.Rows, api.Row{}, api.Row{})
	for i, row := range a.system.Rows {
		a.system.Rows[i] = api.Row{Mult: spareInt(row.Mult), K: spareInt(row.K), A: spareCells(row.A), H: spareCells(row.H), S: spareCells(row.S)}
	}
	return a
}

// all is a copy of l with what its spare room holds.
func all[T any](l []T) []T { return slices.Clone(l[:cap(l)]) }

func allCells(l []api.Cell) []api.Cell {
	out := all(l)
	for i := range out {
		out[i].Val.Limbs = all(out[i].Val.Limbs)
	}
	return out
}

// copied is a copy of all that an ask holds, its spare rooms too.
func (a ask) copied() ask {
	f := &a.flat
	f.Nodes, f.Devs = all(f.Nodes), all(f.Devs)
	for i, d := range f.Devs {
		x := &f.Devs[i]
		x.Nodes, x.Wave.Vals, x.Wave.Steps, x.Model.G, x.Model.V = all(d.Nodes), all(d.Wave.Vals), all(d.Wave.Steps), all(d.Model.G), all(d.Model.V)
	}
	a.segs, a.prev, a.src = all(a.segs), all(a.prev), all(a.src)
	a.system.Rows = all(a.system.Rows)
	for i := range a.system.Rows {
		row := &a.system.Rows[i]
		row.Mult.Limbs, row.K.Limbs = all(row.Mult.Limbs), all(row.K.Limbs)
		row.A, row.H, row.S = allCells(row.A), allCells(row.H), allCells(row.S)
	}
	return a
}

func fill[T any](l []T, with T) {
	l = l[:cap(l)]
	for i := range l {
		l[i] = with
	}
}

// scribbleRows writes over all that a system's lists hold.
func scribbleRows(s api.System) {
	for _, row := range s.Rows {
		for _, cells := range [][]api.Cell{row.A, row.H, row.S} {
			for _, c := range cells {
				fill(c.Val.Limbs, 77)
			}
			fill(cells, api.Cell{Col: 77})
		}
		fill(row.Mult.Limbs, 77)
		fill(row.K.Limbs, 77)
	}
	fill(s.Rows, api.Row{K: limb.Of(77)})
}

// scribble writes over all that an ask's lists hold, their spare rooms too.
func (a ask) scribble() {
	for _, d := range a.flat.Devs {
		fill(d.Nodes, 77)
		fill(d.Wave.Vals, n(77, 3))
		fill(d.Wave.Steps, 77)
		fill(d.Model.G, n(77, 3))
		fill(d.Model.V, n(77, 3))
	}
	fill(a.flat.Nodes, "scribble")
	fill(a.flat.Devs, api.Dev{Name: "scribble"})
	fill(a.segs, 77)
	fill(a.prev, 77)
	fill(a.src, 77)
	scribbleRows(a.system)
}

// scribble writes over all that an answer holds.
func (a answer) scribble() {
	scribbleRows(a.system)
	for _, x := range a.sides {
		fill(x.Limbs, 77)
	}
	fill(a.sides, limb.Of(77))
	fill(a.bent, 77)
	fill(a.said, 77)
}

// Lists of answers lie apart from one another and from what was handed in, with their spare rooms.
func TestNoTwoListsShareMemory(t *testing.T) {
	for _, own := range asks() {
		a := own.roomy()
		one, two := a.answer(), a.answer()
		apart(t, slices.Concat(a.lists(), one.lists("answer"), two.lists("answer again"))...)
		// Memory that nobody holds any more may be given anew.
		runtime.KeepAlive(a)
		runtime.KeepAlive(one)
		runtime.KeepAlive(two)
	}
}

// P12.5: what is handed in is left as it was, its spare rooms too, which have no say; neither what becomes of it nor what
// becomes of an answer is to be seen in another answer.
func TestWhatIsHandedInIsLeftAsItWas(t *testing.T) {
	met := map[api.Errno]int{}
	l := asks()
	for i, own := range l {
		a := own.roomy()
		was := a.copied()
		got := a.answer()
		if now := a.copied(); !reflect.DeepEqual(now, was) {
			t.Fatalf("%s is %s behind the calls", short(was), short(now))
		}
		for _, err := range got.errors {
			met[err]++
		}
		want := got.String()
		again := a.answer()
		l[(i+7)%len(l)].answer()
		a.scribble()
		if got.String() != want {
			t.Fatalf("%s: an answer changes with what becomes of what was handed in", short(want))
		}
		got.scribble()
		if again.String() != want {
			t.Fatalf("%s: an answer changes with what becomes of another", short(want))
		}
		if anew := own.answer().String(); anew != want {
			t.Fatalf("%s, and %s without spare rooms, behind a scribble", short(want), short(anew))
		}
	}
	for _, err := range []api.Errno{api.OK, api.ErrFlat, api.ErrSeg, api.ErrPattern, api.ErrSize, api.ErrRange} {
		if met[err] < 5 {
			t.Errorf("error %d: %d times", err, met[err])
		}
	}
}

// Nothing is kept: calls between two others make no difference to them, nor do calls at the same time.
func TestNothingIsKept(t *testing.T) {
	l := asks()[:60]
	var first []string
	for _, a := range l {
		first = append(first, a.answer().String())
	}
	done := make(chan bool)
	for range 4 {
		go func() {
			fine := true
			for i := range l {
				i = len(l) - 1 - i
				l[(i+3)%len(l)].answer()
				fine = fine && l[i].answer().String() == first[i]
			}
			done <- fine
		}()
	}
	for range 4 {
		if !<-done {
			t.Error("another answer behind other calls")
		}
	}
}
