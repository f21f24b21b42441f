package topo_test

import (
	"math"
	"slices"
	"strconv"
	"strings"
	"testing"

	"shunt/api"
	"shunt/flat"
)

// base is a right flat circuit with a device of every kind, of which nothing floats and none closes a loop.
func base() api.Flat {
	return hand("0 a b c", "v v1 1 0 dc 1", "r r1 1 2 1", "c c1 2 0 1", "l l1 2 3 1", "i i1 3 0 pwl 0 1 2 3", "e e1 1 2 3 0 1", "g g1 1 2 3 0 1", "f f1 1 0 0 1", "h h1 2 3 0 1",
		"t t1 1 2 3 0 1", "d d1 1 2 m d 1 2 3", "s s1 1 2 3 0 q s 1 2 3")
}

// full is the base with as many unknowns as may be.
func full() api.Flat {
	f := base()
	for k := range 39 {
		f.Devs = append(f.Devs, dev("c big"+strconv.Itoa(k)+" 1 0 1"))
	}
	return f
}

func TestTheBaseIsRight(t *testing.T) {
	both(t, base(), "", "")
	both(t, full(), "", "")
}

// A spoiling makes a flat circuit one that isn't right.
type spoiling func(f *api.Flat)

func wholeSpoilings() []spoiling {
	return []spoiling{
		func(f *api.Flat) { *f = api.Flat{} },
		func(f *api.Flat) { f.Step = api.Num{} },
		func(f *api.Flat) { f.Step = n(-1, 0) },
		func(f *api.Flat) { f.Step = n(10, 0) },
		func(f *api.Flat) { f.Method = 0 },
		func(f *api.Flat) { f.Method = 3 },
		func(f *api.Flat) { f.Nodes = nil },
		func(f *api.Flat) { f.Nodes = f.Nodes[1:] },
		func(f *api.Flat) { f.Nodes = f.Nodes[:3] },
		func(f *api.Flat) { f.Nodes[0] = "00" },
		func(f *api.Flat) { f.Nodes[1] = "0" },
		func(f *api.Flat) { f.Nodes[2] = f.Nodes[1] },
		func(f *api.Flat) { f.Nodes[2] = "" },
		func(f *api.Flat) { f.Nodes[2] = "A" },
		func(f *api.Flat) { f.Nodes[2] = "x1..a" },
		func(f *api.Flat) { f.Nodes[2] = strings.Repeat("x.", 9) + "a" },
		func(f *api.Flat) {
			for k := len(f.Nodes); k < 33; k++ {
				f.Nodes = append(f.Nodes, "m"+strconv.Itoa(k))
			}
		},
		func(f *api.Flat) {
			for k := len(f.Devs); k < 65; k++ {
				f.Devs = append(f.Devs, dev("r m"+strconv.Itoa(k)+" 0 0 1"))
			}
		},
		func(f *api.Flat) { f.Devs = append(f.Devs, api.Dev{}) },
		func(f *api.Flat) { f.Devs = append(f.Devs, f.Devs[1]) },
	}
}

// devSpoilings are those of each device.
func devSpoilings() []spoiling {
	var l []spoiling
	add := func(kinds string, do func(d *api.Dev)) {
		for i, d := range base().Devs {
			if strings.IndexByte(kinds, d.Kind) >= 0 {
				l = append(l, func(f *api.Flat) { do(&f.Devs[i]) })
			}
		}
	}
	for _, name := range []string{"", "R1", "a.", "a b", strings.Repeat("n", 17)} {
		add(allKinds, func(d *api.Dev) { d.Name = name })
	}
	for _, kind := range []byte{0, 'x', 'q', 'R', 'V', '0', 128 + 'v', 255} {
		add(allKinds, func(d *api.Dev) { d.Kind = kind })
	}
	for _, node := range []int{-1, 4, 32, 1 << 32, math.MaxInt, math.MinInt} {
		for at := range 4 {
			add(allKinds, func(d *api.Dev) { d.Nodes[min(at, len(d.Nodes)-1)] = node })
		}
	}
	add(allKinds, func(d *api.Dev) { d.Nodes = nil })
	add(allKinds, func(d *api.Dev) { d.Nodes = d.Nodes[:1] })
	add(allKinds, func(d *api.Dev) { d.Nodes = d.Nodes[1:] })
	add(allKinds, func(d *api.Dev) { d.Nodes = append(d.Nodes, 0) })
	add("egts", func(d *api.Dev) { d.Nodes = d.Nodes[:2] })
	add("egts", func(d *api.Dev) { d.Nodes = d.Nodes[:3] })
	add("rclvifhd", func(d *api.Dev) { d.Nodes = append(d.Nodes, 0, 0) })
	// A kind with four nodes in the place of one with two.
	add("rclvifhd", func(d *api.Dev) { d.Kind = 'e' })
	add(allKinds, func(d *api.Dev) { d.Value = n(10, 0) })
	add("rcl", func(d *api.Dev) { d.Value = api.Num{} })
	add("vids", func(d *api.Dev) { d.Value = n(1, 0) })
	add("vi", func(d *api.Dev) { d.Wave = api.Wave{} })
	add("rclegfhtds", func(d *api.Dev) { d.Wave = dev("v v 0 0 dc 1").Wave })
	add("ds", func(d *api.Dev) { d.Model = api.Model{} })
	add("d", func(d *api.Dev) { d.Model.Kind = 's' })
	add("s", func(d *api.Dev) { d.Model.Kind = 'd' })
	add("rclviegfht", func(d *api.Dev) { d.Model.Name = "m" })
	add("rclviegtdsfh", func(d *api.Dev) { d.Ref = 1 })
	add(allKinds, func(d *api.Dev) { d.Ref = -1 })
	add("fh", func(d *api.Dev) { d.Ref = 12 })
	add("v", func(d *api.Dev) { d.Kind = 'i' })
	return l
}

func spoilings() []spoiling { return slices.Concat(wholeSpoilings(), devSpoilings()) }

// Each way in which a flat circuit isn't right, alone, in right modes and in wrong ones: flat's error comes first.
func TestFlatsThatAreNotRight(t *testing.T) {
	for i, spoil := range spoilings() {
		for _, f := range []api.Flat{base(), with(full(), "l one_more 1 0 1")} {
			spoil(&f)
			if err := flat.Check(f); err != api.ErrFlat {
				t.Fatalf("spoiling %d: flat's error is %d: %s", i, err, short(f))
			}
			for _, mode := range append(modes(), 0, 3, -1) {
				refuses(t, f, mode, api.ErrFlat)
			}
		}
	}
}

// All is right but the number of unknowns; a wrong mode is told behind it.
func TestTooManyUnknowns(t *testing.T) {
	for _, line := range []string{"v k 0 0 dc 1", "e k 0 0 0 0 1", "h k 0 0 0 1", "c k 0 0 1", "l k 0 0 1", "t k 0 0 0 0 1"} {
		for _, mode := range append(modes(), wrongModes()...) {
			refuses(t, with(full(), line), mode, api.ErrSize)
		}
	}
	f := full()
	f.Nodes = append(f.Nodes, "floats")
	for _, mode := range append(modes(), wrongModes()...) {
		refuses(t, f, mode, api.ErrSize)
	}
}

func TestModesThatAreNone(t *testing.T) {
	for _, mode := range wrongModes() {
		refuses(t, base(), mode, api.ErrSet)
		refuses(t, hand("0"), mode, api.ErrSet)
		// Whether nodes float or loops are there, or both, is told behind it.
		refuses(t, laid("i1 a 0 1"), mode, api.ErrSet)
		refuses(t, laid("v1 a 0 1 / v2 a 0 1"), mode, api.ErrSet)
		refuses(t, laid("v1 a a 1"), mode, api.ErrSet)
	}
}

// Of nodes that float and devices that close a loop the nodes are told first by Check, and both by their own calls.
func TestFloatsAheadOfLoops(t *testing.T) {
	both(t, laid("v1 a 0 1 / v2 a 0 1 / i1 b 0 1"), "b", "v2")
	both(t, laid("v1 a b 1 / v2 a b 1"), "a b", "v2")
	f := laid("l1 a 0 1 / l2 a 0 1 / c1 b a 1")
	tells(t, f, api.Op, "b", "l2")
	tells(t, f, api.Tran, "", "")
}

// Very long lists and texts are refused before anything is done with them.
func TestVeryMuch(t *testing.T) {
	const much = 1000000
	for _, spoil := range []spoiling{
		func(f *api.Flat) { f.Nodes = slices.Repeat([]string{"0"}, much) },
		func(f *api.Flat) { f.Nodes[1] = strings.Repeat("x.", much) },
		func(f *api.Flat) { f.Devs = slices.Repeat(f.Devs, much/100) },
		func(f *api.Flat) { f.Devs[2].Name = strings.Repeat("a", much) },
		func(f *api.Flat) { f.Devs[2].Nodes = make([]int, much) },
		func(f *api.Flat) { f.Devs[0].Wave.Vals = make([]api.Num, much) },
		func(f *api.Flat) { f.Devs[10].Model.G = make([]api.Num, much) },
	} {
		f := base()
		spoil(&f)
		for _, mode := range append(modes(), 0) {
			refuses(t, f, mode, api.ErrFlat)
		}
	}
}
