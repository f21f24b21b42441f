package model_test

import (
	"slices"
	"testing"

	"shunt/api"
	"shunt/limb"
	"shunt/model"
)

// roomyList is l with spare room behind it, and something in it.
func roomyList(l []api.Num) []api.Num {
	return append(slices.Clone(l), n(77, 7), n(-10, 99))[:len(l)]
}

func roomy(m api.Model) api.Model {
	m.G, m.V = roomyList(m.G), roomyList(m.V)
	return m
}

func roomyInt(a api.Int) api.Int {
	a.Limbs = append(slices.Clone(a.Limbs), 0xabc, 0xdef)[:len(a.Limbs)]
	return a
}

func roomyRat(r api.Rat) api.Rat { return api.Rat{Num: roomyInt(r.Num), Den: roomyInt(r.Den)} }

// room is all that a's list holds, its spare room too.
func room(a api.Int) []uint32 { return a.Limbs[:cap(a.Limbs)] }

// handed is what a call is given.
type handed struct {
	m api.Model
	u api.Rat
}

// all is a copy of what was handed in with all that its lists hold, their spare room too.
func (h handed) all() handed {
	h.m.G, h.m.V = slices.Clone(h.m.G[:cap(h.m.G)]), slices.Clone(h.m.V[:cap(h.m.V)])
	h.u.Num.Limbs, h.u.Den.Limbs = slices.Clone(room(h.u.Num)), slices.Clone(room(h.u.Den))
	return h
}

func (h handed) is(o handed) bool {
	return h.m.Name == o.m.Name && h.m.Kind == o.m.Kind && slices.Equal(h.m.G, o.m.G) && slices.Equal(h.m.V, o.m.V) && one(h.u, o.u)
}

func scribbleInt(a api.Int) {
	for i := range room(a) {
		room(a)[i] ^= 0x5a5a5a5a
	}
}

func (h handed) scribble() {
	for _, l := range [][]api.Num{h.m.G, h.m.V} {
		for i := range l {
			l[i] = n(int64(11*i+3), -2)
		}
	}
	scribbleInt(h.u.Num)
	scribbleInt(h.u.Den)
}

// told is what each call answers of a model, a segment and a fraction.
type told struct {
	valid                     bool
	count, side, at           int
	g, c                      api.Rat
	partErr, sideErr, findErr api.Errno
}

func tell(h handed, k int) told {
	var a told
	a.valid, a.count = model.Valid(h.m), model.Count(h.m)
	a.g, a.c, a.partErr = model.Part(h.m, k)
	a.side, a.sideErr = model.Side(h.m, k, h.u)
	a.at, a.findErr = model.Find(h.m, h.u)
	return a
}

func (a told) is(b told) bool {
	return a.valid == b.valid && a.count == b.count && a.side == b.side && a.at == b.at && one(a.g, b.g) && one(a.c, b.c) &&
		a.partErr == b.partErr && a.sideErr == b.sideErr && a.findErr == b.findErr
}

// copied is a with lists of its own.
func (a told) copied() told {
	for _, i := range a.numbers() {
		i.Limbs = slices.Clone(i.Limbs)
	}
	return a
}

func (a *told) numbers() []*api.Int { return []*api.Int{&a.g.Num, &a.g.Den, &a.c.Num, &a.c.Den} }

// some are arguments of calls, right ones and others.
func some() []handed {
	var l []handed
	models := many(7, 60)
	models = append(models, diode(list(n(1, 0), n(2, 0)), nil), diode(list(n(10, 0)), nil), diode(list(n(1, 0), n(2, 0), n(3, 0)), list(n(2, 0), n(1, 0))), api.Model{})
	fractions := []api.Rat{
		whole(0), whole(700000000), ratio(-1, 3), ratio(5000000001, 2), {Num: filled(72, 9), Den: limb.Of(1)}, ratio(2, 4), {}, {Num: api.Int{Limbs: []uint32{1, 0}}, Den: limb.Of(1)},
	}
	for _, m := range models {
		for _, u := range fractions {
			l = append(l, handed{m, u})
		}
	}
	return l
}

func made(h handed) handed { return handed{roomy(h.m), roomyRat(h.u)} }

func TestWhatIsHandedInIsAsItWas(t *testing.T) {
	for _, h := range some() {
		h = made(h)
		was := h.all()
		for k := -1; k <= 4; k++ {
			tell(h, k)
			if !h.all().is(was) {
				t.Fatalf("%v is %v behind the calls of segment %d", was, h.all(), k)
			}
		}
	}
}

// What was handed in may be changed by its owner: no answer, neither given nor to come, hangs on it.
func TestNothingIsKept(t *testing.T) {
	for _, h := range some() {
		for k := -1; k <= 4; k++ {
			first := made(h)
			got := tell(first, k)
			want := got.copied()
			first.scribble()
			if !got.is(want) {
				t.Fatalf("%v in %d: an answer changes with what was handed in", h, k)
			}
			if again := tell(made(h), k); !again.is(want) {
				t.Fatalf("%v in %d: %v, and %v behind a scribble", h, k, want, again)
			}
			tell(first, k)
			if again := tell(h, k); !again.is(want) {
				t.Fatalf("%v in %d: %v, and %v behind calls of another", h, k, want, again)
			}
		}
	}
}

// Each list of an answer may be written over: neither the others nor what was handed in nor later answers change.
func TestAnswersAreNew(t *testing.T) {
	for _, h := range some() {
		h = made(h)
		was := h.all()
		for k := range 4 {
			want := tell(h, k).copied()
			for i := range 4 {
				got := tell(h, k)
				scribbleInt(*got.numbers()[i])
				for j := range 4 {
					if j != i && !oneInt(*got.numbers()[j], *want.numbers()[j]) {
						t.Fatalf("Part(%v, %d): the lists %d and %d share memory", h.m, k, i, j)
					}
				}
				if !h.all().is(was) || !tell(h, k).is(want) {
					t.Fatalf("Part(%v, %d): what is answered isn't new", h.m, k)
				}
			}
		}
	}
}

// The spare rooms of an answer's lists are apart, too: adding to one list leaves the others as they are.
func TestTheAnswersSpareRoomIsItsOwn(t *testing.T) {
	for _, m := range many(8, 200) {
		for k := range m.G {
			a := tell(handed{m, whole(0)}, k)
			var were [][]uint32
			for _, i := range a.numbers() {
				were = append(were, slices.Clone(room(*i)))
			}
			for i := range 4 {
				scribbleInt(*a.numbers()[i])
				for j := range 4 {
					if j != i && !slices.Equal(room(*a.numbers()[j]), were[j]) {
						t.Fatalf("Part(%v, %d): the rooms of the lists %d and %d share memory", m, k, i, j)
					}
				}
				scribbleInt(*a.numbers()[i])
			}
		}
	}
}

// The spare room has no say: a model cut short of a longer one is as one that was made so.
func TestTheSpareRoomHasNoSay(t *testing.T) {
	for _, h := range some() {
		for k := -1; k <= 4; k++ {
			if a, b := tell(h, k), tell(made(h), k); !a.is(b) {
				t.Fatalf("%v in %d: %v, and with spare room %v", h, k, a, b)
			}
		}
	}
}
