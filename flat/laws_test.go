package flat_test

import (
	"slices"
	"strconv"
	"strings"
	"testing"

	"shunt/api"
	"shunt/flat"
)

// asMeant fails unless Flatten answers what the chapter says, and tells it.
func asMeant(t *testing.T, c api.Circuit) told {
	t.Helper()
	got, want := tell(c), meant(c)
	if !got.is(want) {
		t.Fatalf("%v: %v, not %v", c, got, want)
	}
	return got
}

// enough fails unless each of the errors was met as often as it is to be.
func enough(t *testing.T, got map[api.Errno]int, least map[api.Errno]int) {
	t.Helper()
	for err, times := range least {
		if got[err] < times {
			t.Errorf("error %d was met only %d times", err, got[err])
		}
	}
}

// P9.1 and P9.2: what is told is as meant, and right; each node but the ground is a device's.
func TestCircuitsAreLaidAsMeant(t *testing.T) {
	d := dice(91)
	met := map[api.Errno]int{}
	nested := 0
	for range 12000 {
		got := asMeant(t, d.circuit(1+d.below(16)))
		met[got.err]++
		if got.err != api.OK {
			continue
		}
		takes(t, got.f)
		used := map[int]int{0: 1}
		for _, x := range got.f.Devs {
			for _, node := range x.Nodes {
				used[node]++
			}
			if strings.Count(x.Name, ".") > 1 {
				nested++
			}
		}
		if len(used) != len(got.f.Nodes) {
			t.Fatalf("%v: a node is no device's", got.f)
		}
	}
	enough(t, met, map[api.Errno]int{api.OK: 4000, api.ErrMany: 800, api.ErrSize: 100})
	if nested < 5000 {
		t.Error(nested, "devices stand in x's of x's")
	}
}

// Circuits that aren't right are refused as layer 8 refuses them, whatever they would be laid as.
func TestSpoiledCircuitsAreRefusedAsMeant(t *testing.T) {
	d := dice(92)
	met := map[api.Errno]int{}
	for range 6000 {
		c := copied(d.circuit(1 + d.below(16)))
		list := &c.Cards
		if len(c.Subs) > 0 && d.one(2) {
			list = &c.Subs[d.below(len(c.Subs))].Cards
		}
		if len(*list) > 0 {
			switch x := &(*list)[d.below(len(*list))]; d.below(6) {
			case 0:
				x.Name = d.of("", "r1", "v0", "x", "q", "x1.r1", (*list)[0].Name)
			case 1:
				x.Nodes = append(x.Nodes, d.of("a", "0", "A", "x1.a"))
			case 2:
				x.Nodes = x.Nodes[1:]
			case 3, 4:
				x.Ref = d.of("", "v0", "a", "a1", "!", d.names(1)[0])
			case 5:
				x.Value = n(int64(d.below(11)), 0)
			}
		}
		switch d.below(9) {
		case 0:
			c.Step = n(int64(d.below(3)-1), 0)
		case 1:
			c.Method = d.below(4)
		case 2:
			c.Models = append(c.Models, d.model(d.of("a", "", "A")))
		case 3:
			slices.Reverse(c.Subs)
		case 4:
			c.Cards = append(c.Cards, c.Cards[:len(c.Cards)/2]...)
		}
		met[asMeant(t, c).err]++
	}
	enough(t, met, map[api.Errno]int{
		api.OK: 300, api.ErrArg: 300, api.ErrModel: 100, api.ErrCard: 500, api.ErrMany: 30, api.ErrTwice: 30, api.ErrRef: 100, api.ErrPorts: 50,
	})
}

// P9.3: each node and each device of a right flat circuit is found by its name.
func TestEachIsFoundByItsName(t *testing.T) {
	d := dice(93)
	for range 3000 {
		f := d.flat()
		if d.one(2) {
			f = tell(d.circuit(6)).f
		}
		if flat.Check(f) != api.OK {
			continue
		}
		for i, name := range f.Nodes {
			if k, err := flat.Node(f, name); k != i || err != api.OK {
				t.Fatalf("Node(%v, %q): %d with error %d", f, name, k, err)
			}
		}
		for i, x := range f.Devs {
			if k, err := flat.Dev(f, x.Name); k != i || err != api.OK {
				t.Fatalf("Dev(%v, %q): %d with error %d", f, x.Name, k, err)
			}
		}
	}
}

// A fresh is a name that nothing has, and the long name in whose place it stands.
type fresh struct{ name, long string }

// replaced is c with the cards of its subcircuit in the place of the netlist's x at k, with fresh names for what is not a
// port; and these names.
func replaced(c api.Circuit, k int) (api.Circuit, []fresh) {
	c = copied(c)
	x := c.Cards[k]
	i := slices.IndexFunc(c.Subs, func(s api.Sub) bool { return s.Name == x.Ref })
	sub := c.Subs[i]
	var names []fresh
	anew := func(own, kind string) string {
		s := kind + "fresh_" + strconv.Itoa(len(names))
		for _, f := range names {
			if f.long == x.Name+"."+own && strings.HasPrefix(f.name, kind+"fresh_") {
				return f.name
			}
		}
		names = append(names, fresh{s, x.Name + "." + own})
		return s
	}
	cards := copiedCards(sub.Cards)
	for j := range cards {
		y := &cards[j]
		y.Name = anew(y.Name, y.Name[:1])
		for m, own := range y.Nodes {
			if port := slices.Index(sub.Ports, own); port >= 0 {
				y.Nodes[m] = x.Nodes[port]
			} else if own != "0" {
				y.Nodes[m] = anew(own, "_n_")
			}
		}
		if strings.Contains("fh", y.Name[:1]) {
			y.Ref = anew(y.Ref, "v")
		}
	}
	c.Cards = slices.Concat(c.Cards[:k], cards, c.Cards[k+1:])
	return c, names
}

// inLong is a name of the circuit with fresh names as it was in the one without. A node's fresh name begins with another
// byte than a device's.
func inLong(name string, names []fresh) string {
	head, rest, more := strings.Cut(name, ".")
	for _, f := range names {
		if f.name == head {
			head = f.long
		}
	}
	if more {
		return head + "." + rest
	}
	return head
}

// P9.4: an x replaced by its subcircuit's cards, with fresh names, makes no difference but for these names.
func TestAnXReplacedInPlace(t *testing.T) {
	d := dice(94)
	met := map[api.Errno]int{}
	changed := 0
	for range 12000 {
		c := d.circuit(1 + d.below(14))
		k := slices.IndexFunc(c.Cards, func(x api.Card) bool { return x.Name[0] == 'x' && !d.one(3) })
		if k < 0 {
			continue
		}
		other, names := replaced(c, k)
		if len(other.Cards) > api.MaxCards {
			continue
		}
		was, is := tell(c), tell(other)
		if was.err != is.err || len(was.f.Devs) != len(is.f.Devs) || was.f.Step != is.f.Step || was.f.Method != is.f.Method {
			t.Fatalf("%v with its card %d replaced: %v, not %v", c, k, is, was)
		}
		met[was.err]++
		for i, name := range is.f.Nodes {
			is.f.Nodes[i] = inLong(name, names)
		}
		for i, x := range is.f.Devs {
			if !sameBut(x, was.f.Devs[i]) {
				t.Fatalf("%v with its card %d replaced: %v, not %v", c, k, x, was.f.Devs[i])
			}
			is.f.Devs[i].Name = inLong(x.Name, names)
			if is.f.Devs[i].Name != x.Name {
				changed++
			}
		}
		if !same(was.f, is.f) {
			t.Fatalf("%v with its card %d replaced: %v, not %v", c, k, is, was)
		}
		countWas, branchesWas := flat.Unknowns(was.f)
		if count, branches := flat.Unknowns(is.f); count != countWas || !slices.Equal(branches, branchesWas) {
			t.Fatalf("%v with its card %d replaced: unknowns %d %v, not %d %v", c, k, count, branches, countWas, branchesWas)
		}
	}
	enough(t, met, map[api.Errno]int{api.OK: 1500, api.ErrMany: 200, api.ErrSize: 20})
	if changed < 3000 {
		t.Error(changed, "names changed")
	}
}

// The order of models and of subcircuits, as far as they may be in another one, makes no difference.
func TestListsThatAreNotLaidHaveNoSay(t *testing.T) {
	d := dice(95)
	for range 1500 {
		c := d.circuit(5)
		other := copied(c)
		slices.Reverse(other.Models)
		unused := api.Sub{Name: "unused", Ports: []string{"a"}, Cards: circuit("r1 a b 1 / v1 a 0 1").Cards}
		if len(other.Subs) < api.MaxSubs {
			other.Subs = slices.Insert(other.Subs, d.below(len(other.Subs)+1), unused)
		}
		if was, is := tell(c), tell(other); !was.is(is) {
			t.Fatalf("%v: %v, not %v", other, is, was)
		}
	}
}

// spoil is a flat circuit with one thing another than it was; it may be right still.
func (d *dice) spoil(f api.Flat) api.Flat {
	f = copiedFlat(f)
	names := append(wrongNames(), "a", "a.b", "0", "r1", d.longName())
	if len(f.Devs) == 0 || d.one(4) {
		switch d.below(6) {
		case 0:
			f.Step = []api.Num{{}, n(-1, 0), n(10, 0), n(1, 10), n(1, 9)}[d.below(5)]
		case 1:
			f.Method = d.below(4)
		case 2:
			f.Nodes = append(f.Nodes, d.of(names...))
		case 3:
			f.Nodes[d.below(len(f.Nodes))] = d.of(names...)
		case 4:
			f.Nodes = append(f.Nodes, d.of(f.Nodes...))
		case 5:
			f.Nodes = f.Nodes[:max(1, len(f.Nodes)-1)]
		}
		return f
	}
	x := &f.Devs[d.below(len(f.Devs))]
	switch d.below(11) {
	case 0:
		x.Name = d.of(names...)
	case 1:
		x.Kind = (allKinds + "xq\x00")[d.below(15)]
	case 2:
		x.Nodes = append(x.Nodes, d.below(3))
	case 3:
		x.Nodes = x.Nodes[:max(0, len(x.Nodes)-1)]
	case 4:
		x.Nodes = append([]int{d.below(40) - 2}, x.Nodes...)[:len(x.Nodes)]
	case 5:
		x.Value = []api.Num{{}, n(1, 0), n(10, 0), n(1, 10)}[d.below(4)]
	case 6:
		x.Wave = d.wave()
	case 7:
		x.Wave.Kind = d.below(6)
	case 8:
		x.Model = d.model(d.of("a", "A", "m"))
	case 9:
		x.Ref = d.below(len(f.Devs)+2) - 1
	case 10:
		f.Devs = append(f.Devs, f.Devs[d.below(len(f.Devs))])
		f.Devs[len(f.Devs)-1].Name += d.of("", "9", ".9", ".")
	}
	return f
}

// Check takes right flat circuits, and no others; the other calls answer of each as meant.
func TestFlatsAreCheckedAsMeant(t *testing.T) {
	d := dice(96)
	met := map[api.Errno]int{}
	for range 20000 {
		f := d.flat()
		for d.one(2) {
			f = d.spoil(f)
		}
		want := meantCheck(f)
		if err := flat.Check(f); err != want {
			t.Fatalf("Check(%v): error %d, not %d", f, err, want)
		}
		asked(t, f)
		met[want]++
	}
	enough(t, met, map[api.Errno]int{api.OK: 5000, api.ErrFlat: 5000, api.ErrSize: 200})
}
