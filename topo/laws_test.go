package topo_test

import (
	"slices"
	"strconv"
	"testing"

	"shunt/api"
	"shunt/flat"
)

// enough fails unless each of the errors was met as often as it is to be.
func enough(t *testing.T, got map[api.Errno]int, least map[api.Errno]int) {
	t.Helper()
	for err, times := range least {
		if got[err] < times {
			t.Errorf("error %d was met only %d times", err, got[err])
		}
	}
}

// asMeant fails unless the calls answer what the chapter says of a right flat circuit, and tells it.
func asMeant(t *testing.T, f api.Flat, mode int) told {
	t.Helper()
	got, want := tell(f, mode), meant(f, mode)
	if !got.is(want) {
		t.Fatalf("%v in mode %d: %v, not %v", f, mode, got, want)
	}
	return got
}

// right fails unless layer 9 says that f is right.
func right(t *testing.T, f api.Flat) {
	t.Helper()
	if err := flat.Check(f); err != api.OK {
		t.Fatalf("%v: error %d", f, err)
	}
}

// P10.1: circuits of all sizes.
func TestCircuitsAreToldAsMeant(t *testing.T) {
	d := dice(101)
	met := map[api.Errno]int{}
	twofold := 0
	for i := range 12000 {
		f := d.flat(api.MaxDevs)
		if i%3 == 0 {
			f = d.tied()
		}
		right(t, f)
		for _, mode := range modes() {
			got := asMeant(t, f, mode)
			met[got.checked]++
			if len(got.floats) > 0 && len(got.loops) > 1 {
				twofold++
			}
		}
	}
	enough(t, met, map[api.Errno]int{api.OK: 3000, api.ErrFloat: 3000, api.ErrLoop: 2000})
	if twofold < 300 {
		t.Error(twofold, "have several loops, and nodes that float")
	}
}

// Each device between each of three nodes, and every three sources and inductors.
func TestAllSmallCircuits(t *testing.T) {
	for _, kind := range []byte(allKinds) {
		for k := range 81 {
			f := hand("0 a b", "v v 0 0 dc 1", line(kind, "k", k%3, k/3%3, k/9%3, k/27))
			for _, mode := range modes() {
				asMeant(t, f, mode)
			}
		}
	}
	for k := range 18 * 18 * 18 {
		f := hand("0 a b")
		for i, one := range []int{k % 18, k / 18 % 18, k / 18 / 18} {
			f.Devs = append(f.Devs, dev(line("vl"[one/9], "k"+strconv.Itoa(i), one%3, one/3%3)))
		}
		for _, mode := range modes() {
			asMeant(t, f, mode)
		}
	}
}

// P10.2: in whatever order the devices are, the same nodes float, and as many loops are there.
func TestTheOrderOfDevicesHasNoSay(t *testing.T) {
	d := dice(102)
	moved := 0
	for i := range 5000 {
		f := d.flat(20)
		if i%2 == 0 {
			f = d.tied()
		}
		other := d.shuffled(f)
		right(t, other)
		for _, mode := range modes() {
			was, is := tell(f, mode), tell(other, mode)
			if !slices.Equal(was.floats, is.floats) || len(was.loops) != len(is.loops) || was.checked != is.checked || is.floatsErr != api.OK || is.loopsErr != api.OK {
				t.Fatalf("%v in mode %d: %v; in another order %v: %v", f, mode, was, other, is)
			}
			if !slices.Equal(was.loops, is.loops) {
				moved++
			}
		}
	}
	if moved < 1000 {
		t.Error(moved, "have other places that close loops")
	}
	// The Refs of f and h go with the order, and have no say.
	both(t, hand("0 a b c", "v v1 1 0 dc 1", "f f1 2 0 3 1", "h h1 3 0 0 1", "v v2 1 0 dc 1"), "b", "v2")
	both(t, hand("0 a b c", "v v2 1 0 dc 1", "h h1 3 0 3 1", "f f1 2 0 0 1", "v v1 1 0 dc 1"), "b", "v1")
}

// tiedTo is f with a resistor more, from the node to the ground or from the ground to it, in front of all others or behind
// them.
func (d *dice) tiedTo(f api.Flat, node int) api.Flat {
	f = copied(f)
	ends := []int{node, 0}
	if d.one(2) {
		slices.Reverse(ends)
	}
	more := dev(line('r', "more", ends...))
	if d.one(2) {
		f.Devs = append(f.Devs, more)
		return f
	}
	f.Devs = append([]api.Dev{more}, f.Devs...)
	for i, x := range f.Devs {
		if x.Kind == 'f' || x.Kind == 'h' {
			f.Devs[i].Ref++
		}
	}
	return f
}

// P10.3: a resistor more, from a node that floats to the ground, ties it and what is tied to it, and nothing else.
func TestAResistorMore(t *testing.T) {
	d := dice(103)
	alone, together, left := 0, 0, 0
	for range 3000 {
		f, mode := d.flat(25), 1+d.below(2)
		was := tell(f, mode)
		for _, node := range was.floats {
			tied := reached(node, meantTies(f, mode))
			stay := slices.DeleteFunc(slices.Clone(was.floats), func(k int) bool { return slices.Contains(tied, k) })
			more := d.tiedTo(f, node)
			is := tell(more, mode)
			for i, place := range is.loops {
				is.loops[i], _ = flat.Dev(f, more.Devs[place].Name)
			}
			if want := found(stay, was.loops); !is.is(want) {
				t.Fatalf("%v in mode %d, a resistor from %d more: %v, not %v", f, mode, node, is, want)
			}
			if len(tied) == 1 {
				alone++
			} else {
				together++
			}
			left += len(stay)
		}
	}
	if alone < 1000 || together < 1000 || left < 1000 {
		t.Error(alone, together, left)
	}
}

// A flat circuit with one thing another than it was is refused as layer 9 refuses it, or told as meant.
func TestSpoiledFlatsAreRefusedAsLayerNineSays(t *testing.T) {
	d := dice(104)
	met := map[api.Errno]int{}
	for range 6000 {
		f := d.flat(40)
		d.change(&f)
		mode := d.below(4)
		want := flat.Check(f)
		if want == api.OK && mode%3 == 0 {
			want = api.ErrSet
		}
		met[want]++
		if want == api.OK {
			asMeant(t, f, mode)
		} else {
			refuses(t, f, mode, want)
		}
	}
	enough(t, met, map[api.Errno]int{api.OK: 800, api.ErrFlat: 1500, api.ErrSize: 100, api.ErrSet: 800})
}

// change does one thing to f, which may be right still.
func (d *dice) change(f *api.Flat) {
	switch {
	case d.one(8):
		f.Nodes = append(f.Nodes, "more")
	case d.one(8):
		for k := range 30 {
			f.Devs = append(f.Devs, dev(line("clv"[d.below(3)], "more"+strconv.Itoa(k), 0, d.below(len(f.Nodes)))))
		}
	case len(f.Devs) == 0 || d.one(8):
		f.Method = d.below(4)
	default:
		x := &f.Devs[d.below(len(f.Devs))]
		switch d.below(6) {
		case 0:
			x.Kind = (allKinds + "xq\x00")[d.below(15)]
		case 1:
			x.Nodes = append(x.Nodes, 0)
		case 2:
			x.Nodes = x.Nodes[1:]
		case 3:
			x.Nodes[d.below(len(x.Nodes))] = d.below(40) - 4
		case 4:
			x.Ref = d.below(len(f.Devs)+2) - 1
		case 5:
			x.Value = n(int64(d.below(11)), 0)
		}
	}
}
