package plan_test

import (
	"fmt"
	"reflect"
	"runtime"
	"slices"
	"testing"
	"unsafe"

	"shunt/api"
	"shunt/limb"
	"shunt/plan"
)

// A span is a piece of memory.
type span struct {
	from, to uintptr
	what     string
}

// room is where a list lies, its spare room too.
func room[T any](l []T, what string) span {
	l = l[:cap(l)]
	from := uintptr(unsafe.Pointer(unsafe.SliceData(l)))
	return span{from, from + uintptr(len(l))*unsafe.Sizeof(*new(T)), what}
}

// apart fails if one of the pieces meets another.
func apart(t *testing.T, l ...span) {
	t.Helper()
	slices.SortFunc(l, func(a, b span) int { return int(int64(a.from) - int64(b.from)) })
	last := span{}
	for _, x := range l {
		if x.from == x.to {
			continue
		}
		if x.from < last.to {
			t.Fatalf("%q and %q share memory", last.what, x.what)
		}
		last = x
	}
}

// A job is all that a plan is handed in.
type job struct {
	system api.System
	limbs  int
	asks   []plan.Ask
}

func (j job) spans() []span {
	l := []span{room(j.system.Rows, "rows"), room(j.asks, "asks")}
	for i, row := range j.system.Rows {
		l = append(l, room(row.Mult.Limbs, fmt.Sprint("Mult ", i)), room(row.K.Limbs, fmt.Sprint("K ", i)))
		for k, cells := range [][]api.Cell{row.A, row.H, row.S} {
			l = append(l, room(cells, fmt.Sprint("list ", k, " of row ", i)))
			for _, c := range cells {
				l = append(l, room(c.Val.Limbs, fmt.Sprint("limbs of list ", k, " of row ", i)))
			}
		}
	}
	for i, a := range j.asks {
		l = append(l, room(a.Prev, fmt.Sprint("Prev ", i)), room(a.Src, fmt.Sprint("Src ", i)))
	}
	return l
}

func replySpans(l []plan.Reply, what string) []span {
	out := []span{room(l, what)}
	for i, r := range l {
		what := fmt.Sprint(what, " ", i)
		out = append(out, room(r.Solution.X, what+" X"), room(r.Solution.D.Limbs, what+" D"))
		for k, x := range r.Solution.X {
			out = append(out, room(x.Limbs, fmt.Sprint(what, " limbs of X ", k)))
		}
	}
	return out
}

// jobs are some of each kind, of which some are refused.
func jobs() []job {
	d := dice(1551)
	l := []job{{limbs: 1, asks: make([]plan.Ask, 3)}, {system: divider(), limbs: 32, asks: []plan.Ask{fiveVolts(), fiveVolts()}}}
	for range 150 {
		s := d.system(6)
		l = append(l, job{s, d.limbs(), d.asks(len(s.Rows), 1+d.below(8))})
	}
	return l
}

// spare is l with spare room behind it, and something in it.
func spare[T any](l []T, more ...T) []T { return append(slices.Clone(l), more...)[:len(l)] }

func spareInt(a api.Int) api.Int { return api.Int{Neg: a.Neg, Limbs: spare(a.Limbs, 5, 0)} }

func spareCells(l []api.Cell) []api.Cell {
	out := spare(l, api.Cell{Col: -1}, api.Cell{Col: 99, Val: limb.Of(1)})
	for i, c := range out {
		out[i].Val = spareInt(c.Val)
	}
	return out
}

// roomy is a job like j whose lists have memory of their own, and spare room, with things in it that aren't right.
func (j job) roomy() job {
	j.system.Rows = spare(j.system.Rows, api.Row{}, api.Row{})
	for i, row := range j.system.Rows {
		j.system.Rows[i] = api.Row{Mult: spareInt(row.Mult), K: spareInt(row.K), A: spareCells(row.A), H: spareCells(row.H), S: spareCells(row.S)}
	}
	j.asks = spare(j.asks, plan.Ask{}, plan.Ask{Prev: []int64{edge + 1}})
	for i, a := range j.asks {
		j.asks[i] = plan.Ask{Prev: spare(a.Prev, edge+1), Src: spare(a.Src, -edge-1)}
	}
	return j
}

// all is a copy of l with what its spare room holds.
func all[T any](l []T) []T { return slices.Clone(l[:cap(l)]) }

func allInt(a api.Int) api.Int { return api.Int{Neg: a.Neg, Limbs: all(a.Limbs)} }

func allCells(l []api.Cell) []api.Cell {
	out := all(l)
	for i, c := range out {
		out[i].Val = allInt(c.Val)
	}
	return out
}

// everything is a copy of all that a job holds, its spare rooms too.
func (j job) everything() job {
	j.system.Rows = all(j.system.Rows)
	for i, row := range j.system.Rows {
		j.system.Rows[i] = api.Row{Mult: allInt(row.Mult), K: allInt(row.K), A: allCells(row.A), H: allCells(row.H), S: allCells(row.S)}
	}
	j.asks = all(j.asks)
	for i, a := range j.asks {
		j.asks[i] = plan.Ask{Prev: all(a.Prev), Src: all(a.Src)}
	}
	return j
}

func scribbleOn[T any](l []T, with T) {
	l = l[:cap(l)]
	for i := range l {
		l[i] = with
	}
}

// scribbleSystem writes over all that the system's lists hold, their spare rooms too.
func (j job) scribbleSystem() {
	for _, row := range j.system.Rows {
		for _, cells := range [][]api.Cell{row.A, row.H, row.S} {
			for _, c := range cells {
				scribbleOn(c.Val.Limbs, 77)
			}
			scribbleOn(cells, api.Cell{Col: 77})
		}
		scribbleOn(row.Mult.Limbs, 0)
		scribbleOn(row.K.Limbs, 77)
	}
	scribbleOn(j.system.Rows, api.Row{K: limb.Of(-77)})
}

// scribbleAsks writes over all that the asks hold, their spare rooms too.
func (j job) scribbleAsks() {
	for _, a := range j.asks {
		scribbleOn(a.Prev, 77)
		scribbleOn(a.Src, 77)
	}
	scribbleOn(j.asks, plan.Ask{Prev: []int64{77}})
}

func scribbleReplies(l []plan.Reply) {
	for _, r := range l {
		for _, x := range r.Solution.X {
			scribbleOn(x.Limbs, 77)
		}
		scribbleOn(r.Solution.X, limb.Of(77))
		scribbleOn(r.Solution.D.Limbs, 77)
	}
	scribbleOn(l, plan.Reply{Err: 77})
}

// answers are what Solve and Together say of the asks.
func answers(t *testing.T, p *plan.Plan, asks []plan.Ask, workers int) (single, many []plan.Reply) {
	t.Helper()
	for _, a := range asks {
		single = append(single, reply(p, a))
	}
	many, err := p.Together(asks, workers)
	if err != api.OK {
		t.Fatal(err)
	}
	return single, many
}

// Lists of answers lie apart from one another and from what was handed in, with their spare rooms.
func TestNoTwoListsShareMemory(t *testing.T) {
	for k, own := range jobs() {
		j := own.roomy()
		p, o := made(t, j.system, j.limbs), made(t, j.system, j.limbs)
		one, two := answers(t, p, j.asks, 1+k%16)
		three, four := answers(t, p, j.asks, 3)
		five, six := answers(t, o, j.asks, 5)
		apart(t, slices.Concat(j.spans(), replySpans(one, "Solve"), replySpans(two, "Together"), replySpans(three, "Solve again"),
			replySpans(four, "Together again"), replySpans(five, "another's Solve"), replySpans(six, "another's Together"))...)
		// Memory that nobody holds any more may be given anew.
		runtime.KeepAlive(j)
		for _, l := range [][]plan.Reply{one, two, three, four, five, six} {
			runtime.KeepAlive(l)
		}
	}
}

// P15.4: what is handed in is left as it was, its spare rooms too, which have no say. It may be written over behind the call,
// the system ahead of the first need of the factors too; so may an answer.
func TestWhatIsHandedInIsLeftAsItWas(t *testing.T) {
	met := map[api.Errno]int{}
	for k, own := range jobs() {
		want := meant(own.system, own.limbs).texts(own.asks)
		j := own.roomy()
		was := j.everything()
		p, early := made(t, j.system, j.limbs), made(t, j.system, j.limbs)
		single, many := answers(t, p, j.asks, 1+k%16)
		if now := j.everything(); !reflect.DeepEqual(now, was) {
			t.Fatalf("%s is %s behind the calls", short(was), short(now))
		}
		j.scribbleSystem()
		later, manyLater := answers(t, early, j.asks, 1+k%5)
		j.scribbleAsks()
		for _, l := range [][]plan.Reply{single, many, later, manyLater} {
			if got := texts(l); !slices.Equal(got, want) {
				t.Fatalf("%s, %d limbs: %s, not %s", short(own.system), own.limbs, short(got), short(want))
			}
		}
		scribbleReplies(single)
		scribbleReplies(many)
		for _, x := range []*plan.Plan{p, early} {
			single, many = answers(t, x, own.asks, 2)
			if !slices.Equal(texts(single), want) || !slices.Equal(texts(many), want) || !slices.Equal(texts(later), want) {
				t.Fatalf("%s, %d limbs: an answer changes with what becomes of another", short(own.system), own.limbs)
			}
		}
		for _, r := range single {
			met[r.Err]++
		}
	}
	for _, err := range []api.Errno{api.OK, api.ErrSize, api.ErrRange, api.ErrWide, api.ErrSingular} {
		if met[err] < 20 {
			t.Errorf("error %d: %d times", err, met[err])
		}
	}
}

// Rows, cells and numbers that share memory as they are handed in make no difference.
func TestRowsThatShareMemory(t *testing.T) {
	two := limb.Of(2)
	cells := []api.Cell{{Col: 0, Val: two}, {Col: 1, Val: two}, {Col: 2, Val: two}}
	row := func(a []api.Cell) api.Row { return api.Row{Mult: two, A: a, H: cells, S: cells, K: two} }
	s := api.System{Rows: []api.Row{row(cells), row(cells[:2]), row(cells[1:])}}
	p := made(t, s, 32)
	two.Limbs[0] = 9
	scribbleOn(cells, api.Cell{})
	solves(t, p, prev(1, 2, 3), "0 56 0 / 8")
	solves(t, p, prev(1, 2, 3), "0 56 0 / 8")
	counted(t, p, 1, 3, 2)
}

// What a call is handed in may be written over as soon as it answers: no goroutine looks at it any more.
func TestAsksWrittenOverAtOnce(t *testing.T) {
	p := made(t, matrix("2 1 / 1 3"), 32)
	asks := make([]plan.Ask, 40)
	for k := range int64(200) {
		for i := range asks {
			asks[i] = prev(5*k, 10*k)
		}
		l, err := p.Together(asks, 16)
		for i := range asks {
			scribbleOn(asks[i].Prev, edge+1)
			asks[i] = plan.Ask{}
			if i < len(l) && text(l[i]) != fmt.Sprint(5*k, 15*k, " / 5") {
				t.Fatal(k, i, text(l[i]))
			}
		}
		if err != api.OK || len(l) != len(asks) {
			t.Fatal(err, len(l))
		}
		scribbleReplies(l)
	}
}
