package flat_test

import (
	"math"
	"slices"
	"strconv"
	"strings"
	"testing"

	"shunt/api"
	"shunt/flat"
	"shunt/netlist"
)

// A breaking makes a circuit one that layer 8 refuses.
type breaking struct {
	err api.Errno
	do  func(c *api.Circuit)
}

func breakings() []breaking {
	card := func(err api.Errno, x api.Card) breaking {
		return breaking{err, func(c *api.Circuit) { c.Cards[len(c.Cards)-1] = x }}
	}
	ab := []string{"a", "b"}
	return []breaking{
		{api.ErrArg, func(c *api.Circuit) { c.Step = api.Num{} }},
		{api.ErrArg, func(c *api.Circuit) { c.Step = n(-1, 0) }},
		{api.ErrArg, func(c *api.Circuit) { c.Step = n(10, 0) }},
		{api.ErrArg, func(c *api.Circuit) { c.Method = 3 }},
		{api.ErrModel, func(c *api.Circuit) { c.Models = append(c.Models, api.Model{}) }},
		{api.ErrModel, func(c *api.Circuit) { c.Models = append(c.Models, api.Model{Name: "m", Kind: 'd'}) }},
		{api.ErrCard, func(c *api.Circuit) { c.Subs = append(c.Subs, api.Sub{Name: "q"}) }},
		{api.ErrCard, func(c *api.Circuit) { c.Subs = append(c.Subs, api.Sub{Name: "q", Ports: []string{"0"}}) }},
		{api.ErrCard, func(c *api.Circuit) { c.Subs[0].Cards[0].Name = "" }},
		card(api.ErrCard, api.Card{}), card(api.ErrCard, api.Card{Name: "r99", Nodes: ab}), card(api.ErrCard, api.Card{Name: "x99", Ref: "s"}), card(api.ErrCard, api.Card{Name: "x1.r1", Nodes: ab, Value: n(1, 0)}),
		{api.ErrMany, func(c *api.Circuit) {
			for k := range 65 {
				c.Cards = append(c.Cards, api.Card{Name: "ryy" + strconv.Itoa(k), Nodes: ab, Value: n(1, 0)})
			}
		}},
		{api.ErrMany, func(c *api.Circuit) {
			for k := range 9 {
				c.Subs = append(c.Subs, api.Sub{Name: "yy" + strconv.Itoa(k), Ports: ab})
			}
		}},
		{api.ErrTwice, func(c *api.Circuit) { c.Cards = append(c.Cards, c.Cards[0]) }},
		{api.ErrTwice, func(c *api.Circuit) { c.Subs = append(c.Subs, api.Sub{Name: c.Subs[0].Name, Ports: ab}) }},
		{api.ErrTwice, func(c *api.Circuit) { c.Subs = append(c.Subs, api.Sub{Name: "yy", Ports: []string{"a", "a"}}) }},
		card(api.ErrRef, api.Card{Name: "d99", Nodes: ab, Ref: "none"}), card(api.ErrRef, api.Card{Name: "f99", Nodes: ab, Ref: "v0", Value: n(1, 0)}), card(api.ErrRef, api.Card{Name: "x99", Nodes: ab, Ref: "none"}),
		// A subcircuit that stands in itself, and two that stand in one another.
		{api.ErrRef, func(c *api.Circuit) { c.Subs[0].Cards[0] = api.Card{Name: "x99", Nodes: ab[:1], Ref: c.Subs[0].Name} }},
		{api.ErrRef, func(c *api.Circuit) {
			c.Subs[0].Cards[0] = api.Card{Name: "x99", Nodes: ab, Ref: "yy"}
			c.Subs = append(c.Subs, api.Sub{Name: "yy", Ports: ab, Cards: []api.Card{{Name: "x1", Nodes: ab[:1], Ref: c.Subs[0].Name}}})
		}},
		card(api.ErrPorts, api.Card{Name: "x99", Nodes: []string{"a", "b", "c"}, Ref: "s"}), card(api.ErrPorts, api.Card{Name: "x99", Nodes: ab, Ref: "s"}),
	}
}

// Layer 8's errors come first, whatever else the circuit would be refused for.
func TestErrorsOfNetlistComeFirst(t *testing.T) {
	for _, lines := range []string{
		".subckt s p / r1 p 0 1 / .ends / x1 a s / r1 a 0 1 / r2 a 0 1",
		behind(".subckt s p", count("r# p 0 1", 1, 64), ".ends / x1 a s / x2 a s / r1 a 0 1"),
		behind(".subckt s p", count("r# p n# 1", 1, 64), ".ends / r2 a 0 1 / x1 a s / r1 a 0 1"),
		behind(".subckt s p / r1 p 0 1 / .ends", count("c# a 0 1", 1, 50)),
		behind(".subckt s p", count("v# p 0 1", 1, 50), ".ends / x1 a s / r1 a 0 1"),
	} {
		for _, b := range breakings() {
			c := circuit(lines)
			b.do(&c)
			if err := netlist.Check(c); err != b.err {
				t.Fatalf("layer 8 says %d, not %d: %s", err, b.err, short(c))
			}
			refusesCircuit(t, c, b.err)
		}
	}
	refusesCircuit(t, api.Circuit{}, api.ErrArg)
}

// ErrMany comes ahead of ErrSize.
func TestManyAheadOfSize(t *testing.T) {
	sources := behind(".subckt s p", count("v# p 0 1", 1, 60), ".ends")
	refuses(t, behind(sources, "x1 a s"), api.ErrSize)
	refuses(t, behind(sources, "x1 a s / x2 a s"), api.ErrMany)
	refuses(t, behind(sources, "x1 a s", count("r# a 0 1", 1, 5)), api.ErrMany)
	refuses(t, behind(sources, "x1 a s", count("r# a n# 1", 1, 4)), api.ErrSize)
	refuses(t, behind(count("c# n# n## 1", 1, 30)), api.ErrSize)
	refuses(t, behind(count("c# n# n## 1", 1, 31)), api.ErrMany)
	refuses(t, behind(sources, ".subckt e p / .ends / .subckt q p", count("x# p e", 1, 63), ".ends / x1 a s", count("x# a q", 2, 4)), api.ErrSize)
	refuses(t, behind(sources, ".subckt e p / .ends / .subckt q p", count("x# p e", 1, 63), ".ends / x1 a s", count("x# a q", 2, 5)), api.ErrMany)
}

// base is a right flat circuit with a device of every kind; the place of each is told by kindAt.
func base() api.Flat {
	lines, models, _ := every()
	return tell(circuit(behind(models, lines))).f
}

const kindAt = "rclviegfhtdsvi"

func TestTheBaseIsRight(t *testing.T) {
	f := base()
	for i, d := range f.Devs {
		if d.Kind != kindAt[i] {
			t.Fatal(i, d)
		}
	}
	takes(t, f)
	takes(t, big())
}

// big is the base with as many unknowns as may be.
func big() api.Flat {
	f := base()
	for k := size(f); k < api.MaxSize; k++ {
		f.Devs = append(f.Devs, dev("c big"+strconv.Itoa(k)+" 1 0 1"))
	}
	return f
}

// A spoiling makes a flat circuit one that isn't right. id is a text that no other spoiling of the circuit has.
type spoiling func(f *api.Flat, id string)

// wrongNames are none that a node or a device may have.
func wrongNames() []string {
	l := []string{
		"", "A", "a.", ".a", ".", "..", "a..b", "a b", "a-b", " a", "a ", "a\n", "a\x00", "a\xff", "a\x80", "\u00e4", "a.B", "a.b.c-", "a/b", "a:b", "a`", "a{", "a@", "a^", "[", "$",
		strings.Repeat("n", 17), "a." + strings.Repeat("n", 17), strings.Repeat("n", 17) + ".a", strings.Repeat("x.", 9) + "r", strings.Repeat("x.", 8) + "r.", strings.Repeat(".", 8), strings.Repeat("x.", 20) + "r",
	}
	return append(l, strings.Repeat("n", 200), strings.Repeat("x1.", 200)+"r1")
}

func settingSpoilings() []spoiling {
	var l []spoiling
	for _, step := range []api.Num{{}, n(-1, 0), n(-1, -6), n(10, 0), n(1000000001, 0), n(1, 10), n(1, -19), n(0, 1), n(math.MinInt64, 0), n(1<<62+1, 0), n(1, math.MinInt)} {
		l = append(l, func(f *api.Flat, id string) { f.Step = step })
	}
	for _, method := range []int{0, 3, -1, 257, 258, math.MinInt, math.MaxInt} {
		l = append(l, func(f *api.Flat, id string) { f.Method = method })
	}
	return l
}

func nodeSpoilings() []spoiling {
	l := []spoiling{
		func(f *api.Flat, id string) { f.Nodes = nil },
		func(f *api.Flat, id string) { f.Nodes = f.Nodes[1:] },
		func(f *api.Flat, id string) { f.Nodes = append(f.Nodes, f.Nodes[1]) },
		func(f *api.Flat, id string) { f.Nodes[len(f.Nodes)-1] = f.Nodes[1] },
		func(f *api.Flat, id string) { f.Nodes = append(f.Nodes, "0") },
		func(f *api.Flat, id string) { f.Nodes[0], f.Nodes[1] = f.Nodes[1], f.Nodes[0] },
		func(f *api.Flat, id string) {
			for k := len(f.Nodes); k < 33; k++ {
				f.Nodes = append(f.Nodes, "m"+id+strconv.Itoa(k))
			}
		},
	}
	for _, first := range []string{"", "00", "a1", "g", "0.0", " 0", "0 "} {
		l = append(l, func(f *api.Flat, id string) { f.Nodes[0] = first })
	}
	for _, name := range wrongNames() {
		l = append(l, func(f *api.Flat, id string) { f.Nodes[2] = name }, func(f *api.Flat, id string) { f.Nodes[len(f.Nodes)-1] = name })
	}
	return l
}

// forEach is a spoiling of each device whose kind is one of those.
func forEach(kinds string, do func(d *api.Dev)) []spoiling {
	var l []spoiling
	for i, kind := range kindAt {
		if strings.ContainsRune(kinds, kind) {
			l = append(l, func(f *api.Flat, id string) { do(&f.Devs[i]) })
		}
	}
	return l
}

const allKinds = "rclviegfhtds"

func devSpoilings() []spoiling {
	l := []spoiling{
		func(f *api.Flat, id string) {
			for k := len(f.Devs); k < 65; k++ {
				f.Devs = append(f.Devs, dev("r m"+id+strconv.Itoa(k)+" 0 0 1"))
			}
		},
		func(f *api.Flat, id string) { f.Devs = append(f.Devs, dev("r "+f.Devs[0].Name+" 0 1 5")) },
		func(f *api.Flat, id string) { f.Devs[7].Name = f.Devs[3].Name },
		func(f *api.Flat, id string) { f.Devs = append(f.Devs, api.Dev{}) },
	}
	for _, name := range wrongNames() {
		l = append(l, func(f *api.Flat, id string) { f.Devs[0].Name = name }, func(f *api.Flat, id string) { f.Devs[11].Name = name })
	}
	for _, kind := range []byte{0, 'x', 'q', 'R', '.', '0', '_', 128 + 'r', 255, ' '} {
		l = append(l, forEach(allKinds, func(d *api.Dev) { d.Kind = kind })...)
		l = append(l, func(f *api.Flat, id string) { f.Devs = append(f.Devs, api.Dev{Kind: kind, Name: "n" + id}) })
		l = append(l, func(f *api.Flat, id string) {
			f.Devs = append(f.Devs, api.Dev{Kind: kind, Name: "n" + id, Nodes: []int{0, 0}, Value: n(1, 0)})
		})
	}
	for _, node := range []int{-1, 7, 8, 32, 1000, math.MaxInt, math.MinInt, 1 << 32} {
		for at := range 4 {
			l = append(l, forEach(allKinds, func(d *api.Dev) { d.Nodes[min(at, len(d.Nodes)-1)] = node })...)
		}
	}
	l = append(l, forEach(allKinds, func(d *api.Dev) { d.Nodes = d.Nodes[1:] })...)
	l = append(l, forEach(allKinds, func(d *api.Dev) { d.Nodes = append(d.Nodes, 0) })...)
	l = append(l, forEach(allKinds, func(d *api.Dev) { d.Nodes = append(d.Nodes, 0, 1, 2, 3) })...)
	l = append(l, forEach("rclvifhd", func(d *api.Dev) { d.Nodes = append(d.Nodes, 0, 1) })...)
	l = append(l, forEach("egts", func(d *api.Dev) { d.Nodes = d.Nodes[:2] })...)
	return append(l, forEach(allKinds, func(d *api.Dev) { d.Nodes = nil })...)
}

// partSpoilings are those of Value, Wave, Model and Ref.
func partSpoilings() []spoiling {
	var l []spoiling
	add := func(kinds string, do func(d *api.Dev)) { l = append(l, forEach(kinds, do)...) }
	for _, x := range []api.Num{n(10, 0), n(1000000001, 0), n(1, 10), n(1, -19), n(0, 1), n(math.MinInt64, 0), n(1, math.MaxInt)} {
		add(allKinds, func(d *api.Dev) { d.Value = x })
		add("vi", func(d *api.Dev) { d.Wave = api.Wave{Kind: api.WaveDC, Vals: []api.Num{x}} })
		add("ds", func(d *api.Dev) { d.Model.G[0] = x })
		add("ds", func(d *api.Dev) { d.Model.V[0] = x })
	}
	add("rcl", func(d *api.Dev) { d.Value = api.Num{} })
	add("vids", func(d *api.Dev) { d.Value = n(1, 0) })

	one := []api.Num{n(1, 0)}
	for _, w := range []api.Wave{
		{}, {Kind: 5, Vals: one}, {Kind: -1, Vals: one}, {Kind: api.WaveDC}, {Kind: api.WaveDC, Vals: one, Steps: []int{0}}, {Kind: api.WavePwl, Vals: one}, {Vals: one},
		{Kind: api.WavePwl, Vals: one, Steps: []int{-1}}, {Kind: api.WavePulse, Vals: make([]api.Num, 2), Steps: []int{0, 1, 2, 1, 3}}, {Kind: api.WaveTable, Vals: make([]api.Num, 17)},
	} {
		add("vi", func(d *api.Dev) { d.Wave = copiedWave(w) })
	}
	for _, w := range []api.Wave{{Kind: api.WaveDC, Vals: one}, {Kind: api.WaveDC}, {Kind: -1}, {Vals: make([]api.Num, 1)}, {Steps: make([]int, 1)}} {
		add("rclegfhtds", func(d *api.Dev) { d.Wave = copiedWave(w) })
	}

	for _, m := range []api.Model{
		{}, {Name: "m"}, {Name: "m", Kind: 'd'}, {Name: "", Kind: 'd', G: one}, {Name: "M", Kind: 'd', G: one}, {Name: "x1.m", Kind: 'd', G: one}, {Name: "m", G: one}, {Name: "m", Kind: 'r', G: one}, {Name: "m", Kind: 's', G: one},
		{Name: strings.Repeat("m", 17), Kind: 'd', G: one}, {Name: "m", Kind: 'd', G: one, V: one}, {Name: "m", Kind: 'd', G: slices.Repeat(one, 3), V: slices.Repeat(one, 2)}, {Name: "m", Kind: 's', G: slices.Repeat(one, 3), V: one},
	} {
		add("ds", func(d *api.Dev) { d.Model = copiedModel(m) })
	}
	add("d", func(d *api.Dev) {
		d.Model = copiedModel(api.Model{Name: "m", Kind: 's', G: slices.Repeat(one, 2), V: one})
	})
	add("s", func(d *api.Dev) {
		d.Model = copiedModel(api.Model{Name: "m", Kind: 'd', G: slices.Repeat(one, 2), V: one})
	})
	for _, m := range []api.Model{{Name: "m"}, {Kind: 'd'}, {Kind: 1}, {G: make([]api.Num, 1)}, {V: make([]api.Num, 1)}, {Name: "m", Kind: 'd', G: one}} {
		add("rclviegfht", func(d *api.Dev) { d.Model = copiedModel(m) })
	}

	for _, ref := range []int{-1, 1, 3, 12, 14, 64, 1000, math.MaxInt, math.MinInt, 1 << 32} {
		add("rclviegtds", func(d *api.Dev) { d.Ref = ref })
		if ref != 3 && ref != 12 {
			add("fh", func(d *api.Dev) { d.Ref = ref })
		}
	}
	add("fh", func(d *api.Dev) { d.Ref = 0 })
	// The source that f and h lean on becomes another device.
	return append(l, func(f *api.Flat, id string) { f.Devs[3] = dev("i now" + id + " 1 0 dc 1") }, func(f *api.Flat, id string) { f.Devs[3].Kind = 'i' })
}

func spoilings() []spoiling {
	return slices.Concat(settingSpoilings(), nodeSpoilings(), devSpoilings(), partSpoilings())
}

// Each way in which a flat circuit isn't right, alone; and with too many unknowns, of which less is said.
func TestFlatsThatAreNotRight(t *testing.T) {
	for i, spoil := range spoilings() {
		f := base()
		spoil(&f, "k")
		if meantCheck(f) != api.ErrFlat {
			t.Fatalf("spoiling %d leaves what is right: %v", i, f)
		}
		wrong(t, f, api.ErrFlat)
		f = big()
		f.Devs = append(f.Devs, dev("l one_more 1 0 1"))
		spoil(&f, "k")
		wrong(t, f, api.ErrFlat)
	}
}

// Two ways at once.
func TestFlatsThatAreTwiceNotRight(t *testing.T) {
	l := spoilings()
	whole := base()
	for i, a := range l {
		// One in some: every two of them would be too many to wait for.
		for k := i % 31; k < len(l); k += 31 {
			f := copiedFlat(whole)
			// The one may have taken away what the other changes.
			func() {
				defer func() { recover() }()
				a(&f, "k")
				l[k](&f, "l")
			}()
			if meantCheck(f) != flat.Check(f) {
				t.Fatalf("spoilings %d and %d: error %d of %v", i, k, flat.Check(f), f)
			}
		}
	}
}

// All is right but the number of unknowns.
func TestFlatsWithTooManyUnknowns(t *testing.T) {
	f := big()
	takes(t, f)
	for _, kind := range []string{"v k 0 0 dc 1", "e k 0 0 0 0 1", "h k 0 0 3 1", "c k 0 0 1", "l k 0 0 1", "t k 0 0 0 0 1"} {
		more := copiedFlat(f)
		more.Devs = append(more.Devs, dev(kind))
		wrong(t, more, api.ErrSize)
	}
	for _, kind := range []string{"r k 0 0 1", "i k 0 0 dc 1", "g k 0 0 0 0 1", "f k 0 0 3 1", "d k 0 0 m d 1", "s k 0 0 0 0 m s 1 2 3"} {
		more := copiedFlat(f)
		more.Devs = append(more.Devs, dev(kind))
		takes(t, more)
	}
	more := copiedFlat(f)
	more.Nodes = append(more.Nodes, "one.more")
	wrong(t, more, api.ErrSize)
	more = hand("0")
	for k := range 48 {
		more.Devs = append(more.Devs, dev("c c"+strconv.Itoa(k)+" 0 0 1"))
	}
	takes(t, more)
	more.Devs = append(more.Devs, dev("c c 0 0 1"))
	wrong(t, more, api.ErrSize)
}

// Flat circuits that no circuit is laid as, but that are right.
func TestUncommonFlatsThatAreRight(t *testing.T) {
	takes(t, hand("0 a b", "r r1 1 0 1"))
	takes(t, hand("0 0.0 a.0 x1.a", "r 0 0 0 1"))
	// The first byte of a name needn't be the kind; names of devices and of nodes, of parts and of wholes, may be the same.
	takes(t, hand("0 r1 a c1", "c r1 1 2 1", "r c1 2 3 1", "v a.b 1 2 dc 1", "f 0 1 2 2 1", "d _ 1 2 v d 1", "i a.b.c 1 0 dc 1", "g x 0 0 0 0 1", "t v1 0 0 0 0 0"))
	takes(t, hand("0", "d d1 0 0 m d 1", "d d2 0 0 m d 2", "s s1 0 0 0 0 m s 1 2 3", "s s2 0 0 0 0 m s 3 2 3"))
	takes(t, hand("0", "h h1 0 0 2 1", "v v1 0 0 dc 1", "v v2 0 0 dc 1", "f f1 0 0 1 1"))
	var l []string
	for k := range 64 {
		l = append(l, "d d"+strconv.Itoa(k)+" 0 0 m"+strconv.Itoa(k)+" d 1")
	}
	takes(t, hand("0", l...))
	for k := range 31 {
		l[k] = "n" + strconv.Itoa(k)
	}
	takes(t, hand("0 "+strings.Join(l[:31], " ")))
	takes(t, hand("0 "+strings.Repeat("x.", 8)+"r a_9", "r "+strings.Repeat(strings.Repeat("0", 16)+".", 8)+strings.Repeat("z", 16)+" 0 1 1"))
	for _, step := range []api.Num{n(1, -18), n(999999999, 9), n(1, 9)} {
		f := base()
		f.Step, f.Method = step, api.Trap
		takes(t, f)
	}
	// A list without elements is one with none.
	f := base()
	for i := range f.Devs {
		d := &f.Devs[i]
		if len(d.Wave.Vals) == 0 {
			d.Wave.Vals = []api.Num{}
		}
		if len(d.Wave.Steps) == 0 {
			d.Wave.Steps = []int{}
		}
		if len(d.Model.G) == 0 {
			d.Model.G, d.Model.V = []api.Num{}, []api.Num{}
		}
	}
	takes(t, f)
	takes(t, api.Flat{Nodes: []string{"0"}, Devs: []api.Dev{}, Step: n(1, 0), Method: api.Euler})
}

// Node and Dev take any flat circuit, and tell the first of several.
func TestNodeAndDevOfAnyFlat(t *testing.T) {
	wrong(t, api.Flat{}, api.ErrFlat)
	f := api.Flat{Nodes: []string{"a", "0", "", "a", "B b", "0"}, Devs: []api.Dev{{}, {Name: "d"}, {Name: "r1", Kind: 'q'}, {Name: "r1"}, {Name: "B b"}}}
	wrong(t, f, api.ErrFlat)
	for name, want := range map[string]int{"a": 0, "0": 1, "": 2, "B b": 4} {
		if k, err := flat.Node(f, name); k != want || err != api.OK {
			t.Errorf("Node(%q): %d with error %d", name, k, err)
		}
	}
	for name, want := range map[string]int{"": 0, "d": 1, "r1": 2, "B b": 4} {
		if k, err := flat.Dev(f, name); k != want || err != api.OK {
			t.Errorf("Dev(%q): %d with error %d", name, k, err)
		}
	}
	for _, name := range []string{"r", "r1.", "A", "b", "0.", "x1.a", "\x00", strings.Repeat("a", 1000)} {
		k, err := flat.Node(f, name)
		if l, other := flat.Dev(f, name); k != 0 || err != api.ErrNone || l != 0 || other != api.ErrNone {
			t.Errorf("%q: %d with error %d, %d with error %d", name, k, err, l, other)
		}
	}
}

// Very long lists and texts are refused before anything is done with them.
func TestVeryMuch(t *testing.T) {
	const much = 3000000
	long := strings.Repeat("x.", much)
	f := base()
	for i, spoil := range []spoiling{
		func(f *api.Flat, id string) { f.Nodes = slices.Repeat([]string{"0"}, much) },
		func(f *api.Flat, id string) { f.Nodes[1] = long },
		func(f *api.Flat, id string) { f.Nodes[1] = long[:much-1] + strings.Repeat("a", much) },
		func(f *api.Flat, id string) { f.Devs = slices.Repeat(f.Devs, much/100) },
		func(f *api.Flat, id string) { f.Devs[2].Name = strings.Repeat("a", much) },
		func(f *api.Flat, id string) { f.Devs[2].Nodes = make([]int, much) },
		func(f *api.Flat, id string) { f.Devs[2].Wave.Vals = make([]api.Num, much) },
		func(f *api.Flat, id string) { f.Devs[3].Wave.Vals = make([]api.Num, much) },
		func(f *api.Flat, id string) { f.Devs[3].Wave.Steps = make([]int, much) },
		func(f *api.Flat, id string) { f.Devs[10].Model.G = make([]api.Num, much) },
		func(f *api.Flat, id string) { f.Devs[10].Model.Name = strings.Repeat("a", much) },
		func(f *api.Flat, id string) { f.Devs[2].Model.Name = strings.Repeat("a", much) },
	} {
		f = base()
		spoil(&f, "k")
		if err := flat.Check(f); err != api.ErrFlat {
			t.Errorf("%d: error %d", i, err)
		}
		if count, l := flat.Unknowns(f); count != 0 || len(l) != 0 {
			t.Errorf("%d: %d %v", i, count, l)
		}
	}
	cards := slices.Repeat(circuit("r1 a 0 1").Cards, 100000)
	refusesCircuit(t, api.Circuit{Step: n(1, 0), Method: 1, Cards: cards}, api.ErrMany)
}
