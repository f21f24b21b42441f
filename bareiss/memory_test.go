package bareiss_test

import (
	"fmt"
	"reflect"
	"runtime"
	"slices"
	"testing"
	"unsafe"

	"shunt/api"
	"shunt/bareiss"
	"shunt/limb"
)

// A span is a piece of memory.
type span struct {
	from, to uintptr
	what     string
}

// room is where a list lies, its spare room too.
func room[T any](l []T, what string) span {
	l = l[:cap(l)]
	from := uintptr(unsafe.Pointer(unsafe.SliceData(l)))
	return span{from, from + uintptr(len(l))*unsafe.Sizeof(*new(T)), what}
}

// intLists are where the list lies, and the limbs of each of its numbers.
func intLists(l []api.Int, what string) []span {
	out := []span{room(l, what)}
	for i, a := range l {
		out = append(out, room(a.Limbs, fmt.Sprint(what, " limbs ", i)))
	}
	return out
}

// apart fails if one of the pieces meets another.
func apart(t *testing.T, l ...span) {
	t.Helper()
	slices.SortFunc(l, func(a, b span) int { return int(int64(a.from) - int64(b.from)) })
	last := span{}
	for _, x := range l {
		if x.from == x.to {
			continue
		}
		if x.from < last.to {
			t.Fatalf("%q and %q share memory", last.what, x.what)
		}
		last = x
	}
}

// An ask is all that the calls are handed in.
type ask struct {
	rows  [][]api.Cell
	limbs int
	b     []api.Int
}

// An answer is all that the calls tell.
type answer struct {
	ofNew, ofSolve api.Errno
	pivots         int
	rows, cols     []int
	numbers        []api.Int
	det            api.Int
	solution       api.Solution
}

// tell is what a Factor answers, if there is one.
func tell(f *bareiss.Factor, b []api.Int) answer {
	var out answer
	if f == nil {
		return out
	}
	out.rows, out.cols = f.Order()
	out.numbers, out.det = f.Pivots(), f.Det()
	out.solution, out.ofSolve = f.Solve(b)
	return out
}

func (a ask) answer() (*bareiss.Factor, answer) {
	f, pivots, err := bareiss.New(a.rows, a.limbs)
	out := tell(f, a.b)
	out.pivots, out.ofNew = pivots, err
	return f, out
}

func (a answer) String() string {
	return fmt.Sprint(a.ofNew, a.ofSolve, a.pivots, a.rows, a.cols, words(a.numbers), "; ", words([]api.Int{a.det, a.solution.D}), "; ", words(a.solution.X))
}

func (a answer) lists(what string) []span {
	l := []span{room(a.rows, what+" rows"), room(a.cols, what+" columns"), room(a.det.Limbs, what+" determinant"), room(a.solution.D.Limbs, what+" D")}
	return slices.Concat(l, intLists(a.numbers, what+" pivots"), intLists(a.solution.X, what+" X"))
}

func (a ask) lists() []span {
	l := append(intLists(a.b, "b"), room(a.rows, "matrix"))
	for i, cells := range a.rows {
		l = append(l, room(cells, fmt.Sprint("row ", i)))
		for _, c := range cells {
			l = append(l, room(c.Val.Limbs, fmt.Sprint("row ", i, " limbs of ", c.Col)))
		}
	}
	return l
}

// asks are some of each kind, of which some are refused.
func asks() []ask {
	l := []ask{{limbs: 1}, {}, {rows: unit(49).cells(), limbs: 32}, {rows: unit(48).cells(), limbs: 32, b: slices.Repeat(list("7"), 48)}}
	d := dice(1414)
	for len(l) < 300 {
		count := 1 + d.below(6)
		draw := func() api.Int { return d.bits(1 + d.below(60)) }
		m := d.matrix(count, 1+d.below(2), draw)
		a := ask{rows: m.cells(), limbs: 1 + d.below(14), b: d.side(count, draw)}
		switch d.below(12) {
		case 0:
			a.rows = append(a.rows, row(count+1))
		case 1:
			a.limbs = 33
		case 2:
			a.b = append(a.b, api.Int{})
		case 3:
			a.b[0] = api.Int{Limbs: []uint32{1, 0}}
		case 4:
			a.limbs, a.b[count-1] = 32, twoTo(1024)
		case 5, 6, 7:
			a.limbs = 32
		}
		l = append(l, a)
	}
	return l
}

// spare is l with spare room behind it, and something in it.
func spare[T any](l []T, more ...T) []T { return append(slices.Clone(l), more...)[:len(l)] }

func spareInt(a api.Int) api.Int { return api.Int{Neg: a.Neg, Limbs: spare(a.Limbs, 5, 0)} }

// roomy is an ask like a whose lists have memory of their own, and spare room, with things in it that aren't right.
func (a ask) roomy() ask {
	a.rows = spare(a.rows, row(99), nil)
	for i, cells := range a.rows {
		a.rows[i] = spare(cells, api.Cell{Col: -1}, api.Cell{Col: 99, Val: limb.Of(1)})
		for k, c := range a.rows[i] {
			a.rows[i][k].Val = spareInt(c.Val)
		}
	}
	a.b = spare(a.b, api.Int{Neg: true}, api.Int{Limbs: []uint32{0}})
	for i, x := range a.b {
		a.b[i] = spareInt(x)
	}
	return a
}

// all is a copy of l with what its spare room holds.
func all[T any](l []T) []T { return slices.Clone(l[:cap(l)]) }

// everything is a copy of all that an ask holds, its spare rooms too.
func (a ask) everything() ask {
	a.rows = all(a.rows)
	for i, cells := range a.rows {
		a.rows[i] = all(cells)
		for k, c := range a.rows[i] {
			a.rows[i][k].Val.Limbs = all(c.Val.Limbs)
		}
	}
	a.b = all(a.b)
	for i, x := range a.b {
		a.b[i].Limbs = all(x.Limbs)
	}
	return a
}

func scribbleOn[T any](l []T, with T) {
	l = l[:cap(l)]
	for i := range l {
		l[i] = with
	}
}

func scribbleInts(l []api.Int) {
	for _, a := range l {
		scribbleOn(a.Limbs, 77)
	}
	scribbleOn(l, limb.Of(-77))
}

// scribble writes over all that an ask's lists hold, their spare rooms too.
func (a ask) scribble() {
	for _, cells := range a.rows {
		for _, c := range cells {
			scribbleOn(c.Val.Limbs, 77)
		}
		scribbleOn(cells, api.Cell{Col: 77})
	}
	scribbleOn(a.rows, row(77))
	scribbleInts(a.b)
}

// scribble writes over all that an answer holds.
func (a answer) scribble() {
	scribbleOn(a.rows, 77)
	scribbleOn(a.cols, 77)
	scribbleInts(a.numbers)
	scribbleInts(a.solution.X)
	scribbleOn(a.det.Limbs, 77)
	scribbleOn(a.solution.D.Limbs, 77)
}

// Lists of answers lie apart from one another and from what was handed in, with their spare rooms.
func TestNoTwoListsShareMemory(t *testing.T) {
	for _, own := range asks() {
		a := own.roomy()
		f, one := a.answer()
		two := tell(f, a.b)
		apart(t, slices.Concat(a.lists(), one.lists("answer"), two.lists("answer again"))...)
		// Memory that nobody holds any more may be given anew.
		runtime.KeepAlive(a)
		runtime.KeepAlive(one)
		runtime.KeepAlive(two)
	}
}

// P14.6: what is handed in is left as it was, its spare rooms too, which have no say; a Factor answers alike however often
// it is asked, whatever becomes of what was handed in and of its answers.
func TestWhatIsHandedInIsLeftAsItWas(t *testing.T) {
	ofNew, ofSolve := map[api.Errno]int{}, map[api.Errno]int{}
	for _, own := range asks() {
		a := own.roomy()
		was := a.everything()
		f, got := a.answer()
		if now := a.everything(); !reflect.DeepEqual(now, was) {
			t.Fatalf("%v is %v behind the calls", was, now)
		}
		ofNew[got.ofNew]++
		ofSolve[got.ofSolve]++
		want := got.String()
		a.scribble()
		if got.String() != want {
			t.Fatalf("%s: an answer changes with what becomes of what was handed in", short(want))
		}
		for range 3 {
			again := tell(f, own.b)
			again.pivots, again.ofNew = got.pivots, got.ofNew
			if again.String() != want {
				t.Fatalf("%s, and %s when it is asked again", short(want), short(again.String()))
			}
			again.scribble()
		}
		if got.String() != want {
			t.Fatalf("%s: an answer changes with what becomes of another", short(want))
		}
		got.scribble()
		if _, anew := own.answer(); anew.String() != want {
			t.Fatalf("%s, and %s without spare rooms, behind a scribble", short(want), short(anew.String()))
		}
	}
	for _, err := range []api.Errno{api.OK, api.ErrPattern, api.ErrArg, api.ErrWide, api.ErrSingular} {
		if ofNew[err] < 5 {
			t.Errorf("New: error %d: %d times", err, ofNew[err])
		}
	}
	for _, err := range []api.Errno{api.OK, api.ErrSize, api.ErrInt, api.ErrWide} {
		if ofSolve[err] < 5 {
			t.Errorf("Solve: error %d: %d times", err, ofSolve[err])
		}
	}
}

// Rows, cells and numbers that share memory as they are handed in make no difference.
func TestRowsThatShareMemory(t *testing.T) {
	two := limb.Of(2)
	cells := []api.Cell{{Col: 0, Val: two}, {Col: 1, Val: two}, {Col: 2, Val: two}}
	f, pivots, err := bareiss.New([][]api.Cell{cells, cells[:2], cells[1:]}, 1)
	if err != api.OK || pivots != 3 {
		t.Fatal(pivots, err)
	}
	x := factorMeant(of("2 2 2 / 2 2 0 / 0 2 2"), 1)
	factorIs(t, f, x.rows, x.cols, x.pivots, limb.Of(8))
	solves(t, f, []api.Int{two, two, two}, list("0 8 0"), limb.Of(8))
	if got := words([]api.Int{two, cells[0].Val, cells[1].Val, cells[2].Val}); got != "2 2 2 2" {
		t.Error(got)
	}
	refuses(t, [][]api.Cell{cells, cells, cells}, 1, 1, api.ErrSingular)
}

// Two Factors know nothing of one another, and several sides may be solved at the same time with one.
func TestNothingIsShared(t *testing.T) {
	l := asks()
	var made []*bareiss.Factor
	var first []string
	for _, a := range l {
		f, _ := a.answer()
		made = append(made, f)
		first = append(first, tell(f, a.b).String())
	}
	done := make(chan bool)
	for range 4 {
		go func() {
			fine := true
			for i := range l {
				i = len(l) - 1 - i
				fine = fine && tell(made[i], l[i].b).String() == first[i]
			}
			done <- fine
		}()
	}
	for range 4 {
		if !<-done {
			t.Error("another answer behind other calls")
		}
	}
}

// What is answered hangs on no map's order.
func TestAlikeHoweverOften(t *testing.T) {
	d := dice(1415)
	for range 20 {
		draw := func() api.Int { return d.bits(1 + d.below(30)) }
		a := ask{rows: d.matrix(10, 2, draw).cells(), limbs: 2 + d.below(20), b: d.side(10, draw)}
		_, want := a.answer()
		for range 20 {
			if _, got := a.answer(); got.String() != want.String() {
				t.Fatalf("%s, and %s", short(want.String()), short(got.String()))
			}
		}
	}
}
