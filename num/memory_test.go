package num_test

import (
	"slices"
	"testing"

	"shunt/api"
	"shunt/num"
)

// room is all that a's list holds, its spare room too.
func room(a api.Int) []uint32 { return a.Limbs[:cap(a.Limbs)] }

func scribble(l []uint32) {
	for i := range l {
		l[i] ^= 0x5a5a5a5a
	}
}

func TestValuesPartsAreApart(t *testing.T) {
	for _, n := range rights() {
		r, _ := num.Value(n)
		was := slices.Clone(room(r.Den))
		scribble(room(r.Num))
		if !slices.Equal(room(r.Den), was) {
			t.Fatalf("Value(%v): Num and Den share memory", n)
		}
	}
}

func TestValuesAreNew(t *testing.T) {
	for _, n := range rights() {
		first, _ := num.Value(n)
		second, _ := num.Value(n)
		was := api.Rat{Num: api.Int{Neg: first.Num.Neg, Limbs: slices.Clone(first.Num.Limbs)}, Den: api.Int{Limbs: slices.Clone(first.Den.Limbs)}}
		scribble(room(first.Num))
		scribble(room(first.Den))
		if !one(second, was) {
			t.Fatalf("Value(%v): two answers share memory", n)
		}
		if third, err := num.Value(n); !one(third, was) || err != api.OK {
			t.Fatalf("Value(%v) answers otherwise behind a scribble: %v with error %d", n, third, err)
		}
	}
}

func TestTextsDontHangOnOthers(t *testing.T) {
	for _, n := range rights() {
		first, _ := num.Text(n)
		num.Text(api.Num{Mant: 123456789, Exp: -18})
		if second, err := num.Text(n); second != first || err != api.OK {
			t.Fatalf("Text(%v): %q, and %q with error %d the second time", n, first, second, err)
		}
	}
}
