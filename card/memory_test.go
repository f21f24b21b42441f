package card_test

import (
	"slices"
	"strings"
	"testing"
	"unsafe"

	"shunt/api"
	"shunt/card"
)

// room is all that a list holds, its spare room too.
func room[T any](l []T) []T { return l[:cap(l)] }

// roomy is l with spare room behind it, and something in it.
func roomy[T any](l []T, spare ...T) []T { return append(slices.Clone(l), spare...)[:len(l)] }

func scribble[T any](l []T, with T) {
	for i := range room(l) {
		room(l)[i] = with
	}
}

// clones are words each in memory of its own.
func clones(l []string) []string {
	var m []string
	for _, w := range l {
		m = append(m, strings.Clone(w))
	}
	return roomy(m, "5", "spare")
}

func roomyWave(w api.Wave) api.Wave {
	w.Vals, w.Steps = roomy(w.Vals, n(7, 7), n(10, 99)), roomy(w.Steps, 5, -1)
	return w
}

// made is a card like c in memory of its own, with spare room.
func made(c api.Card) api.Card {
	c.Name, c.Ref, c.Nodes, c.Wave = strings.Clone(c.Name), strings.Clone(c.Ref), clones(c.Nodes), roomyWave(c.Wave)
	return c
}

func madeModel(m api.Model) api.Model {
	m.Name, m.G, m.V = strings.Clone(m.Name), roomy(m.G, n(7, 7), n(10, 99)), roomy(m.V, n(8, 8), n(10, 99))
	return m
}

// whole is a copy of c with all that its lists hold, their spare room too.
func whole(c api.Card) api.Card {
	c.Nodes, c.Wave.Vals, c.Wave.Steps = slices.Clone(room(c.Nodes)), slices.Clone(room(c.Wave.Vals)), slices.Clone(room(c.Wave.Steps))
	return c
}

func wholeModel(m api.Model) api.Model {
	m.G, m.V = slices.Clone(room(m.G)), slices.Clone(room(m.V))
	return m
}

func scribbleCard(c api.Card) {
	scribble(c.Nodes, "scribble")
	scribble(c.Wave.Vals, n(77, 3))
	scribble(c.Wave.Steps, 77)
}

func scribbleModel(m api.Model) {
	scribble(m.G, n(77, 3))
	scribble(m.V, n(-77, 3))
}

// texts are those of a card, and of its nodes.
func texts(c api.Card) []string { return append([]string{c.Name, c.Ref}, c.Nodes...) }

// apart fails unless no text of the answer lies where one that was handed in does.
func apart(t *testing.T, answer, handed []string) {
	t.Helper()
	for _, a := range answer {
		for _, h := range handed {
			// The library keeps texts of one byte in one place, whoever builds them.
			if len(a) > 1 && len(h) > 1 && unsafe.StringData(a) == unsafe.StringData(h) {
				t.Fatalf("%q lies in what was handed in", a)
			}
		}
	}
}

func lines() [][]string {
	d := dice(77)
	l := [][]string{nil, {""}, {"r1"}, words("v1 a b pwl 3 0 2 0"), words(".model m d 1 2 3 1 4")}
	for _, s := range slices.Concat(fine(), fineModels()) {
		l = append(l, words(s))
	}
	for range 500 {
		l = append(l, d.cardLine(), d.line(modelRows()))
	}
	return l
}

func TestReadLeavesTheWordsAsTheyWere(t *testing.T) {
	for _, l := range lines() {
		handed := clones(l)
		was := slices.Clone(room(handed))
		c, err := card.Read(handed)
		m, modelErr := card.ReadModel(handed)
		if !slices.Equal(room(handed), was) {
			t.Fatalf("%q is %q behind the calls", was, room(handed))
		}
		apart(t, append(texts(c), m.Name), handed)
		wasC, wasM := made(c), madeModel(m)
		scribble(handed, "scribble")
		if !sameCard(c, wasC) || !sameModel(m, wasM) {
			t.Fatalf("%q: an answer changes with what was handed in", l)
		}
		scribbleCard(c)
		scribbleModel(m)
		again, againErr := card.Read(l)
		againM, againModelErr := card.ReadModel(l)
		if !sameCard(again, wasC) || !sameModel(againM, wasM) || againErr != err || againModelErr != modelErr {
			t.Fatalf("%q: another answer behind a scribble", l)
		}
	}
}

// The lists of an answer share no memory with one another, nor their spare rooms.
func TestNoTwoListsShareMemory(t *testing.T) {
	for _, l := range lines() {
		if m, err := card.ReadModel(l); err == api.OK {
			was := wholeModel(m)
			scribble(m.G, n(77, 3))
			if !slices.Equal(room(m.V), was.V) {
				t.Fatalf("%q: G and V share memory", l)
			}
		}
		a, err := card.Read(l)
		if err != api.OK {
			continue
		}
		b, _ := card.Read(l)
		was := whole(b)
		scribbleCard(a)
		if !sameCard(whole(b), was) {
			t.Fatalf("%q: two answers share memory", l)
		}
	}
}

func TestWriteLeavesTheCardAsItWas(t *testing.T) {
	d := dice(78)
	for range 1500 {
		c := made(d.card())
		if d.below(3) == 0 {
			c = made(d.spoil(c))
		}
		was := whole(c)
		own := made(c)
		l, err := card.Write(c)
		if !sameCard(whole(c), was) {
			t.Fatalf("%v is %v behind Write", was, whole(c))
		}
		apart(t, l, texts(c))
		want := slices.Clone(l)
		scribbleCard(c)
		if !slices.Equal(l, want) {
			t.Fatalf("Write(%v): an answer changes with what was handed in", own)
		}
		scribble(l, "scribble")
		if again, againErr := card.Write(own); !slices.Equal(again, want) || againErr != err {
			t.Fatalf("Write(%v): %q, and %q behind a scribble", own, want, again)
		}
	}
}

func TestWriteModelLeavesTheModelAsItWas(t *testing.T) {
	d := dice(79)
	for range 1500 {
		m := madeModel(d.model())
		if d.below(3) == 0 && len(m.V) > 0 {
			m.V = m.V[1:]
		}
		was := wholeModel(m)
		own := madeModel(m)
		l, err := card.WriteModel(m)
		if !sameModel(wholeModel(m), was) {
			t.Fatalf("%v is %v behind WriteModel", was, wholeModel(m))
		}
		apart(t, l, []string{m.Name})
		want := slices.Clone(l)
		scribbleModel(m)
		scribble(l, "scribble")
		if again, againErr := card.WriteModel(own); !slices.Equal(again, want) || againErr != err {
			t.Fatalf("WriteModel(%v): %q, and %q behind a scribble", own, want, again)
		}
	}
}

// The spare room has no say: a list cut short of a longer one is as one that was made so.
func TestTheSpareRoomHasNoSay(t *testing.T) {
	for _, l := range lines() {
		for count := range len(l) {
			a, err := card.Read(l[:count])
			b, again := card.Read(slices.Clip(slices.Clone(l[:count])))
			m, modelErr := card.ReadModel(l[:count])
			o, modelAgain := card.ReadModel(slices.Clip(slices.Clone(l[:count])))
			if !sameCard(a, b) || err != again || !sameModel(m, o) || modelErr != modelAgain {
				t.Fatalf("%q cut at %d: %v, and %v", l, count, a, b)
			}
		}
	}
	d := dice(80)
	for range 1500 {
		c := d.spoil(d.card())
		a, err := card.Write(c)
		if b, again := card.Write(made(c)); !slices.Equal(a, b) || err != again {
			t.Fatalf("Write(%v): %q, and with spare room %q", c, a, b)
		}
	}
}
