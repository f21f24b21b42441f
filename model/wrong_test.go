package model_test

import (
	"math"
	"slices"
	"strings"
	"testing"

	"shunt/api"
	"shunt/limb"
	"shunt/model"
)

func TestNoKindOfTheTwo(t *testing.T) {
	for kind := range 256 {
		for _, m := range []api.Model{exampleDiode(), exampleSwitch()} {
			m.Kind = byte(kind)
			if kind == 'd' || kind == 's' {
				right(t, m)
			} else {
				wrong(t, m)
			}
		}
	}
	wrong(t, api.Model{})
	wrong(t, api.Model{Name: "a"})
}

// Each byte there is, at each place of names of each length.
func TestBytesOfNames(t *testing.T) {
	for b := range 256 {
		fine := strings.IndexByte("abcdefghijklmnopqrstuvwxyz0123456789_", byte(b)) >= 0
		for count := 1; count <= api.MaxName; count++ {
			for _, at := range []int{0, count / 2, count - 1} {
				name := slices.Repeat([]byte{'a'}, count)
				name[at] = byte(b)
				m := exampleDiode()
				m.Name = string(name)
				if model.Valid(m) != fine {
					t.Fatalf("Valid of a model with the name %q: %v", name, !fine)
				}
			}
		}
	}
}

func TestNoNames(t *testing.T) {
	for _, name := range []string{
		"", " ", "D1", "d-1", "d 1", " d1", "d1 ", "d.1", "d1\n", "d1\x00", "\x00", "\xff", "é", "dé", "٣", "ａ", "d1;", "*d", "`", "{", "/", ":", "^",
		strings.Repeat("a", 17), strings.Repeat("_", 17), strings.Repeat("0", 17), strings.Repeat("a", 16) + "\x00", strings.Repeat("a", 32),
		strings.Repeat("a", 1<<16), strings.Repeat("a", 1<<8+1),
	} {
		for _, m := range []api.Model{exampleDiode(), exampleSwitch(), diode(list(n(1, 0)), nil)} {
			m.Name = name
			wrong(t, m)
		}
	}
}

// Models of each kind with any counts of G and V: right where the chapter says so.
func TestCountsOfGAndV(t *testing.T) {
	counts := []int{0, 1, 2, 3, 4, 5, 6, 16, 17, 256, 257, 258, 1000}
	for _, kind := range []byte{'d', 's'} {
		for _, gs := range counts {
			for _, vs := range counts {
				m := api.Model{Name: "m", Kind: kind}
				for i := range gs {
					m.G = append(m.G, n(int64(1+i%9), 0))
				}
				for i := range vs {
					m.V = append(m.V, n(int64(10*i+1), 0))
				}
				if kind == 'd' && 1 <= gs && gs <= 4 && vs == gs-1 || kind == 's' && gs == 2 && vs == 1 {
					right(t, m)
				} else {
					wrong(t, m)
				}
			}
		}
	}
}

// wrongNumbers are numbers that aren't right, in each way there is.
func wrongNumbers() []api.Num {
	return []api.Num{
		n(10, 0), n(-10, 0), n(0, 1), n(0, -1), n(1000000000, 0), n(1000000001, 0), n(-1000000001, 0), n(1, 10), n(1, -19), n(5, math.MaxInt),
		n(5, math.MinInt), n(math.MaxInt64, 0), n(math.MinInt64, 0), n(1<<32+1, 0), n(1, 1<<32),
	}
}

// Each of the G and of the V instead of a right one.
func TestNumbersThatArentRight(t *testing.T) {
	for _, bad := range wrongNumbers() {
		for _, m := range rights() {
			for i := range m.G {
				other := m
				other.G = slices.Clone(m.G)
				other.G[i] = bad
				wrong(t, other)
			}
			for i := range m.V {
				other := m
				other.V = slices.Clone(m.V)
				other.V[i] = bad
				wrong(t, other)
			}
		}
	}
}

func TestKnotsThatDontRise(t *testing.T) {
	g := list(n(1, 0), n(2, 0), n(3, 0), n(4, 0))
	for _, v := range [][]api.Num{
		list(n(1, 0), n(1, 0)), list(n(0, 0), n(0, 0)), list(n(2, 0), n(1, 0)), list(n(-1, 0), n(-2, 0)), list(n(1, 0), n(-1, 0)), list(n(0, 0), n(-1, -18)),
		list(n(1, 3), n(999, 0)), list(n(1, -18), n(0, 0)), list(n(1, 9), n(999999999, 0)), list(n(5, 0), n(9, -1)), list(n(-9, -1), n(-5, 0)),
		list(n(1, 0), n(2, 0), n(2, 0)), list(n(1, 0), n(1, 0), n(2, 0)), list(n(1, 0), n(3, 0), n(2, 0)), list(n(3, 0), n(1, 0), n(2, 0)),
		list(n(2, 0), n(1, 0), n(3, 0)), list(n(3, 0), n(2, 0), n(1, 0)), list(n(1, 0), n(2, 0), n(1, 0)),
	} {
		wrong(t, diode(g[:len(v)+1], v))
	}
	for _, v := range [][]api.Num{
		list(n(999, 0), n(1, 3)), list(n(9, -1), n(5, 0)), list(n(-5, 0), n(-9, -1)), list(n(-1, -18), n(0, 0)), list(n(0, 0), n(1, -18)),
		list(n(999999999, 0), n(1, 9)), list(n(-1, 0), n(0, 0), n(1, 0)), list(n(9, 0), n(1, 1), n(11, 0)), list(n(-999999999, 9), n(-999999998, 9)),
	} {
		right(t, diode(g[:len(v)+1], v))
	}
}

func TestNoSegment(t *testing.T) {
	for _, m := range rights() {
		for _, k := range []int{-1, -2, len(m.G), len(m.G) + 1, 4, 5, -1 << 32, 1 << 32, 1<<32 + 1, 256, 257, math.MaxInt, math.MinInt} {
			partless(t, m, k, api.ErrSeg)
			for _, u := range slices.Concat(fine(), ofWrongInts(), notLowest()) {
				sideless(t, m, k, u, api.ErrSeg)
			}
		}
	}
}

// fine are right fractions.
func fine() []api.Rat {
	return []api.Rat{whole(0), ratio(-3, 2), {Num: api.Int{Limbs: []uint32{}}, Den: limb.Of(1)}, {Num: filled(72, 0xffffffff), Den: limb.Of(2)}}
}

// ofWrongInts are fractions with a whole number that isn't right, beside parts of every kind.
func ofWrongInts() []api.Rat {
	var l []api.Rat
	for _, w := range []api.Int{
		{Neg: true}, {Limbs: []uint32{0}}, {Neg: true, Limbs: []uint32{0}}, {Limbs: []uint32{5, 0}}, {Neg: true, Limbs: []uint32{5, 0}},
		filled(73, 1), minus(filled(73, 1)), filled(73, 0), filled(1000, 7), filled(72, 0),
	} {
		for _, o := range []api.Int{{}, limb.Of(1), limb.Of(-4), filled(72, 0xffffffff), w} {
			l = append(l, api.Rat{Num: w, Den: o}, api.Rat{Num: o, Den: w})
		}
	}
	return l
}

// notLowest are fractions of right whole numbers that aren't right themselves.
func notLowest() []api.Rat {
	long := filled(72, 0xffffffff)
	return []api.Rat{
		{}, ratio(1, 0), ratio(-1, 0), ratio(0, 5), ratio(0, -1), ratio(2, 4), ratio(-2, 4), ratio(3, 3), ratio(1, -2), ratio(-1, -2), ratio(1, -1),
		{Num: long, Den: long}, {Num: limb.Of(3), Den: long}, {Num: limb.Of(1), Den: minus(long)}, ratio(1400000000, 2),
	}
}

func TestWrongFractions(t *testing.T) {
	for _, m := range rights() {
		for _, u := range ofWrongInts() {
			lost(t, m, u, api.ErrInt)
			for k := range m.G {
				sideless(t, m, k, u, api.ErrInt)
			}
		}
		for _, u := range notLowest() {
			lost(t, m, u, api.ErrRat)
			for k := range m.G {
				sideless(t, m, k, u, api.ErrRat)
			}
		}
	}
}
