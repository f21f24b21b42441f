package sparse_test

import (
	"fmt"
	"reflect"
	"runtime"
	"slices"
	"testing"
	"unsafe"

	"shunt/api"
	"shunt/limb"
	"shunt/sparse"
)

// A span is a piece of memory.
type span struct {
	from, to uintptr
	what     string
}

// room is where a list lies, its spare room too.
func room[T any](l []T, what string) span {
	l = l[:cap(l)]
	from := uintptr(unsafe.Pointer(unsafe.SliceData(l)))
	return span{from, from + uintptr(len(l))*unsafe.Sizeof(*new(T)), what}
}

// patternLists are where all lists of a pattern lie.
func patternLists(p [][]int, what string) []span {
	l := []span{room(p, what)}
	for row, cols := range p {
		l = append(l, room(cols, fmt.Sprint(what, " row ", row)))
	}
	return l
}

// systemLists are where all lists of a system lie.
func systemLists(s api.System) []span {
	l := []span{room(s.Rows, "Rows")}
	for _, row := range s.Rows {
		l = append(l, room(row.A, "A"), room(row.H, "H"), room(row.S, "S"))
	}
	return l
}

// apart fails if one of the pieces meets another.
func apart(t *testing.T, l ...span) {
	t.Helper()
	slices.SortFunc(l, func(a, b span) int { return int(int64(a.from) - int64(b.from)) })
	last := span{}
	for _, x := range l {
		if x.from == x.to {
			continue
		}
		if x.from < last.to {
			t.Fatalf("%q and %q share memory", last.what, x.what)
		}
		last = x
	}
}

// An ask is all that the calls are handed in.
type ask struct {
	pattern    [][]int
	at         place
	rows, cols []int
	system     api.System
}

// An answer is all that the calls tell.
type answer struct {
	of, left   [][]int
	rows, cols []int
	cost, fill int
	best       place
	there      bool
	errors     [7]api.Errno
}

func (a ask) answer() answer {
	var out answer
	out.errors[0] = sparse.Check(a.pattern)
	out.of, out.errors[1] = sparse.Of(a.system)
	out.cost, out.errors[2] = sparse.Cost(a.pattern, a.at.row, a.at.col)
	out.best.row, out.best.col, out.there, out.errors[3] = sparse.Best(a.pattern)
	out.left, out.errors[4] = sparse.Eliminate(a.pattern, a.at.row, a.at.col)
	out.rows, out.cols, out.errors[5] = sparse.Order(a.pattern)
	out.fill, out.errors[6] = sparse.Fill(a.pattern, a.rows, a.cols)
	return out
}

func (a answer) String() string {
	return fmt.Sprint(text(a.of), "; ", text(a.left), "; ", a.rows, a.cols, a.cost, a.fill, a.best, a.there, a.errors)
}

func (a answer) lists(what string) []span {
	l := append(patternLists(a.of, what+" of"), patternLists(a.left, what+" left")...)
	return append(l, room(a.rows, what+" rows"), room(a.cols, what+" columns"))
}

func (a ask) lists() []span {
	l := append(patternLists(a.pattern, "pattern"), systemLists(a.system)...)
	return append(l, room(a.rows, "rows"), room(a.cols, "columns"))
}

// asks are some of each kind, of which some are refused.
func asks() []ask {
	l := []ask{{}, {pattern: make([][]int, 49), system: plain(49)}, {pattern: full(48), system: plain(48), rows: upTo(48), cols: upTo(48)}}
	d := dice(1309)
	for len(l) < 200 {
		p := d.some(14)
		a := ask{pattern: p, system: d.system(p)}
		a.rows, a.cols = d.order(p)
		if places := placesOf(p).list(); len(places) > 0 {
			a.at = places[d.below(len(places))]
		}
		switch d.below(9) {
		case 0:
			a.pattern = append(a.pattern, []int{len(p) + 1})
		case 1:
			a.system.Rows = append(a.system.Rows, api.Row{})
		case 2:
			a.rows = append(a.rows, 0)
		case 3:
			a.rows, a.cols = append(a.rows, 0, 0), append(a.cols, 0, 0)
		case 4:
			a.at.col = -1
		}
		l = append(l, a)
	}
	return l
}

// spare is l with spare room behind it, and something in it.
func spare[T any](l []T, more ...T) []T { return append(slices.Clone(l), more...)[:len(l)] }

func spareInt(a api.Int) api.Int { return api.Int{Neg: a.Neg, Limbs: spare(a.Limbs, 5, 0)} }

func spareCells(l []api.Cell) []api.Cell {
	out := spare(l, api.Cell{Col: -1, Val: one()})
	for i := range out {
		out[i].Val = spareInt(out[i].Val)
	}
	return out
}

// roomy is an ask like a whose lists have memory of their own, and spare room, with things in it that aren't right.
func (a ask) roomy() ask {
	a.pattern = spare(a.pattern, []int{99}, []int{-1})
	for row, cols := range a.pattern {
		a.pattern[row] = spare(cols, -1, 99)
	}
	a.rows, a.cols = spare(a.rows, -1), spare(a.cols, -1, 99, 99)
	a.system.Rows = spare(a.system.Rows, api.Row{}, api.Row{})
	for i, row := range a.system.Rows {
		a.system.Rows[i] = api.Row{Mult: spareInt(row.Mult), K: spareInt(row.K), A: spareCells(row.A), H: spareCells(row.H), S: spareCells(row.S)}
	}
	return a
}

// all is a copy of l with what its spare room holds.
func all[T any](l []T) []T { return slices.Clone(l[:cap(l)]) }

func allCells(l []api.Cell) []api.Cell {
	out := all(l)
	for i := range out {
		out[i].Val.Limbs = all(out[i].Val.Limbs)
	}
	return out
}

// everything is a copy of all that an ask holds, its spare rooms too.
func (a ask) everything() ask {
	a.pattern = all(a.pattern)
	for row, cols := range a.pattern {
		a.pattern[row] = all(cols)
	}
	a.rows, a.cols = all(a.rows), all(a.cols)
	a.system.Rows = all(a.system.Rows)
	for i := range a.system.Rows {
		row := &a.system.Rows[i]
		row.Mult.Limbs, row.K.Limbs = all(row.Mult.Limbs), all(row.K.Limbs)
		row.A, row.H, row.S = allCells(row.A), allCells(row.H), allCells(row.S)
	}
	return a
}

func scribbleOn[T any](l []T, with T) {
	l = l[:cap(l)]
	for i := range l {
		l[i] = with
	}
}

func scribblePattern(p [][]int) {
	for _, cols := range p {
		scribbleOn(cols, 77)
	}
	scribbleOn(p, []int{77})
}

// scribble writes over all that an ask's lists hold, their spare rooms too.
func (a ask) scribble() {
	scribblePattern(a.pattern)
	scribbleOn(a.rows, 77)
	scribbleOn(a.cols, 77)
	for _, row := range a.system.Rows {
		for _, cells := range [][]api.Cell{row.A, row.H, row.S} {
			scribbleOn(cells, api.Cell{Col: 77})
		}
	}
	scribbleOn(a.system.Rows, api.Row{K: limb.Of(77)})
}

// scribble writes over all that an answer holds.
func (a answer) scribble() {
	scribblePattern(a.of)
	scribblePattern(a.left)
	scribbleOn(a.rows, 77)
	scribbleOn(a.cols, 77)
}

// Lists of answers lie apart from one another and from what was handed in, with their spare rooms.
func TestNoTwoListsShareMemory(t *testing.T) {
	for _, own := range asks() {
		a := own.roomy()
		one, two := a.answer(), a.answer()
		apart(t, slices.Concat(a.lists(), one.lists("answer"), two.lists("answer again"))...)
		// Memory that nobody holds any more may be given anew.
		runtime.KeepAlive(a)
		runtime.KeepAlive(one)
		runtime.KeepAlive(two)
	}
}

// P13.5: what is handed in is left as it was, its spare rooms too, which have no say; neither what becomes of it nor what
// becomes of an answer is to be seen in another answer.
func TestWhatIsHandedInIsLeftAsItWas(t *testing.T) {
	met := map[api.Errno]int{}
	l := asks()
	for i, own := range l {
		a := own.roomy()
		was := a.everything()
		got := a.answer()
		if now := a.everything(); !reflect.DeepEqual(now, was) {
			t.Fatalf("%s is %s behind the calls", short(was), short(now))
		}
		for _, err := range got.errors {
			met[err]++
		}
		want := got.String()
		again := a.answer()
		l[(i+7)%len(l)].answer()
		a.scribble()
		if got.String() != want {
			t.Fatalf("%s: an answer changes with what becomes of what was handed in", short(want))
		}
		got.scribble()
		if again.String() != want {
			t.Fatalf("%s: an answer changes with what becomes of another", short(want))
		}
		if anew := own.answer().String(); anew != want {
			t.Fatalf("%s, and %s without spare rooms, behind a scribble", short(want), short(anew))
		}
	}
	for _, err := range []api.Errno{api.OK, api.ErrPattern, api.ErrSize, api.ErrArg} {
		if met[err] < 5 {
			t.Errorf("error %d: %d times", err, met[err])
		}
	}
}

// Rows that share memory as they are handed in don't in what is answered, and aren't written on.
func TestRowsThatShareMemory(t *testing.T) {
	cols := upTo(4)
	p := [][]int{cols, cols[:2], cols[1:3], cols}
	was := text(p)
	leaves(t, p, 1, 1, "0 2 3 / - / 0 2 / 0 2 3")
	fills(t, p, []int{1, 0}, []int{1, 2}, 2)
	left, err := sparse.Eliminate(p, 1, 0)
	if err != api.OK || text(p) != was {
		t.Error(p, err)
	}
	apart(t, append(patternLists(left, "left"), room(cols, "given"))...)
	one := upTo(3)
	fills(t, full(3), one, one, 0)
	if !slices.Equal(one, upTo(3)) {
		t.Error(one)
	}
}

// Nothing is kept: calls between two others make no difference to them, nor do calls at the same time.
func TestNothingIsKept(t *testing.T) {
	l := asks()[:60]
	var first []string
	for _, a := range l {
		first = append(first, a.answer().String())
	}
	done := make(chan bool)
	for range 4 {
		go func() {
			fine := true
			for i := range l {
				i = len(l) - 1 - i
				l[(i+3)%len(l)].answer()
				fine = fine && l[i].answer().String() == first[i]
			}
			done <- fine
		}()
	}
	for range 4 {
		if !<-done {
			t.Error("another answer behind other calls")
		}
	}
}
