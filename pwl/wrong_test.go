package pwl_test

import (
	"math"
	"slices"
	"strconv"
	"strings"
	"testing"

	"shunt/api"
	"shunt/limb"
	"shunt/plan"
	"shunt/pwl"
)

const allKinds = "rclviegfhtds"

// base is a right flat circuit with a device of every kind, the diode at the place 10 and the switch at 11. It has 9 unknowns.
func base() api.Flat {
	return hand("0 a b c", "v v1 1 0 dc 1", "r r1 1 2 1", "c c1 2 0 1", "l l1 2 3 1", "i i1 3 0 pwl 0 1 2 3", "e e1 1 2 3 0 1", "g g1 1 2 3 0 1", "f f1 1 0 0 1", "h h1 2 3 0 1",
		"t t1 1 2 3 0 1", "d d1 1 2 m d 1 2 3", "s s1 1 2 3 0 q s 1 2 3")
}

// full is the base with as many unknowns as may be.
func full() api.Flat {
	f := base()
	for k := range 39 {
		f.Devs = append(f.Devs, dev("c big"+strconv.Itoa(k)+" 1 0 1"))
	}
	return f
}

// over is the base with one unknown too many.
func over() api.Flat {
	f := full()
	f.Devs = append(f.Devs, dev("c big39 1 0 1"))
	return f
}

// ones are a solution of so many unknowns, all of them 1.
func ones(count int) api.Solution {
	return api.Solution{X: slices.Repeat([]api.Int{limb.Of(3)}, count), D: limb.Of(3)}
}

// bothSegs are a right choice of the base.
func bothSegs() []int { return []int{1, 0} }

func TestTheBaseIsRight(t *testing.T) {
	for _, f := range []api.Flat{base(), full()} {
		for _, s := range []api.Setting{resting(), timed(api.Euler), timed(api.Trap)} {
			made(t, f, s, by(1))
		}
		v, i, err := pwl.Report(f, bothSegs(), ones(unknowns(f)), make([]int64, len(f.Devs)))
		if err != api.OK || len(v) != unknowns(f) || len(i) != len(f.Devs) {
			t.Error(v, i, err)
		}
	}
}

// A spoiling makes a flat circuit one that isn't right.
type spoiling func(f *api.Flat)

func wholeSpoilings() []spoiling {
	return []spoiling{
		func(f *api.Flat) { *f = api.Flat{} },
		func(f *api.Flat) { f.Step = api.Num{} },
		func(f *api.Flat) { f.Step = n(-1, 0) },
		func(f *api.Flat) { f.Step = n(10, 0) },
		func(f *api.Flat) { f.Method = 0 },
		func(f *api.Flat) { f.Method = 3 },
		func(f *api.Flat) { f.Nodes = nil },
		func(f *api.Flat) { f.Nodes = f.Nodes[1:] },
		func(f *api.Flat) { f.Nodes = f.Nodes[:3] },
		func(f *api.Flat) { f.Nodes[0] = "00" },
		func(f *api.Flat) { f.Nodes[2] = f.Nodes[1] },
		func(f *api.Flat) { f.Nodes[2] = "" },
		func(f *api.Flat) { f.Nodes[2] = strings.Repeat("x.", 9) + "a" },
		func(f *api.Flat) { f.Nodes, f.Devs = nil, nil },
		func(f *api.Flat) {
			for k := len(f.Nodes); k < 33; k++ {
				f.Nodes = append(f.Nodes, "m"+strconv.Itoa(k))
			}
		},
		func(f *api.Flat) {
			for k := len(f.Devs); k < 65; k++ {
				f.Devs = append(f.Devs, dev("r m"+strconv.Itoa(k)+" 0 0 1"))
			}
		},
		func(f *api.Flat) { f.Devs = append(f.Devs, api.Dev{}) },
		func(f *api.Flat) { f.Devs = append(f.Devs, f.Devs[1]) },
	}
}

// devSpoilings are those of each device.
func devSpoilings() []spoiling {
	var l []spoiling
	add := func(kinds string, do func(d *api.Dev)) {
		for i, d := range base().Devs {
			if strings.IndexByte(kinds, d.Kind) >= 0 {
				l = append(l, func(f *api.Flat) { do(&f.Devs[i]) })
			}
		}
	}
	for _, kind := range []byte{0, 'x', 'R', 255} {
		add(allKinds, func(d *api.Dev) { d.Kind = kind })
	}
	for _, node := range []int{-1, 4, math.MaxInt, math.MinInt} {
		for at := range 4 {
			add(allKinds, func(d *api.Dev) { d.Nodes[min(at, len(d.Nodes)-1)] = node })
		}
	}
	add(allKinds, func(d *api.Dev) { d.Name = "R1" })
	add(allKinds, func(d *api.Dev) { d.Nodes = nil })
	add(allKinds, func(d *api.Dev) { d.Nodes = d.Nodes[1:] })
	add(allKinds, func(d *api.Dev) { d.Nodes = append(d.Nodes, 0) })
	add("egts", func(d *api.Dev) { d.Nodes = d.Nodes[:2] })
	add("rclvifhd", func(d *api.Dev) { d.Nodes = append(d.Nodes, 0, 0) })
	// A kind with four nodes in the place of one with two.
	add("rclvifhd", func(d *api.Dev) { d.Kind = 'e' })
	add(allKinds, func(d *api.Dev) { d.Value = n(10, 0) })
	add("rcl", func(d *api.Dev) { d.Value = api.Num{} })
	add("vids", func(d *api.Dev) { d.Value = n(1, 0) })
	add("vi", func(d *api.Dev) { d.Wave = api.Wave{} })
	add("rclegfhtds", func(d *api.Dev) { d.Wave = dev("v v 0 0 dc 1").Wave })
	add("ds", func(d *api.Dev) { d.Model = api.Model{} })
	add("ds", func(d *api.Dev) { d.Model.G = nil })
	add("d", func(d *api.Dev) { d.Model.Kind = 's' })
	add("s", func(d *api.Dev) { d.Model.Kind = 'd' })
	add("rclviegfht", func(d *api.Dev) { d.Model.Name = "m" })
	add(allKinds, func(d *api.Dev) { d.Ref = 1 })
	add(allKinds, func(d *api.Dev) { d.Ref = -1 })
	add("fh", func(d *api.Dev) { d.Ref = 12 })
	add("v", func(d *api.Dev) { d.Kind = 'i' })
	return l
}

func spoilings() []spoiling { return slices.Concat(wholeSpoilings(), devSpoilings()) }

// wrongSettings are those that aren't right, for one reason or several.
func wrongSettings() []api.Setting {
	var l []api.Setting
	for _, mode := range []int{0, 3, -1, -2, 255, 257, 258, 1<<32 + 1, 1<<32 + 2, math.MaxInt, math.MinInt} {
		l = append(l, api.Setting{Mode: mode}, api.Setting{Mode: mode, Method: api.Euler, Step: n(1, 0)}, api.Setting{Mode: mode, Method: 9, Step: n(10, 0)})
	}
	for _, method := range []int{0, 3, -1, -2, 257, 258, 1<<32 + 1, math.MaxInt, math.MinInt} {
		l = append(l, api.Setting{Mode: api.Tran, Method: method, Step: n(1, -3)}, api.Setting{Mode: api.Tran, Method: method})
	}
	for _, step := range []api.Num{{}, n(-1, 0), n(-5, -18), n(10, 0), n(100, -3), n(0, 1), n(1, -19), n(1, 10), n(1000000001, 0), n(-999999999, 9), n(math.MaxInt64, 0), n(math.MinInt64, 0), n(1, math.MaxInt), n(1, math.MinInt)} {
		l = append(l, api.Setting{Mode: api.Tran, Method: api.Euler, Step: step}, api.Setting{Mode: api.Tran, Method: api.Trap, Step: step})
	}
	return l
}

// wrongOptions are those that aren't right.
func wrongOptions() []api.Options {
	return []api.Options{{}, {Limbs: 33, Iter: 1, Workers: 1}, {Limbs: 1, Iter: 65, Workers: 1}, {Limbs: 1, Iter: 1, Workers: 17}}
}

// wrongChoices are such of the base, which has two bent devices, each with two segments.
func wrongChoices() [][]int {
	l := [][]int{nil, {}, {0}, {1}, {0, 0, 0}, {1, 0, 1}, make([]int, 1<<12)}
	for _, seg := range []int{-1, 2, 3, 1 << 32, math.MaxInt, math.MinInt} {
		l = append(l, []int{seg, 0}, []int{0, seg}, []int{seg, seg})
	}
	return l
}

// notRight are numbers that layer 1 refuses.
func notRight() []api.Int {
	return []api.Int{
		{Neg: true}, {Limbs: []uint32{0}}, {Neg: true, Limbs: []uint32{0}}, {Limbs: []uint32{5, 0}}, {Limbs: slices.Repeat([]uint32{1}, 73)},
		{Neg: true, Limbs: append(slices.Repeat([]uint32{1}, 31), 0)}, {Limbs: make([]uint32, 1<<12)},
	}
}

// offGrid are numbers that aren't on the grid.
func offGrid() []int64 { return []int64{edge + 1, -edge - 1, math.MaxInt64, math.MinInt64} }

// at is a list of so many noughts, with x at one place.
func at(place, count int, x int64) []int64 {
	l := make([]int64, count)
	l[place] = x
	return l
}

func TestFlatsThatAreNotRight(t *testing.T) {
	for k, spoil := range spoilings() {
		f := base()
		spoil(&f)
		for _, o := range append(wrongOptions(), by(1)) {
			refuses(t, f, resting(), o, api.ErrFlat)
			refuses(t, f, api.Setting{}, o, api.ErrFlat)
		}
		for _, segs := range [][]int{bothSegs(), nil} {
			for _, x := range []api.Solution{ones(9), ones(8), {}, {X: ones(9).X}} {
				refusesReport(t, f, segs, x, make([]int64, 12), api.ErrFlat)
				refusesReport(t, f, segs, x, []int64{edge + 1}, api.ErrFlat)
			}
		}
		if t.Failed() {
			t.Fatal("spoiling ", k)
		}
	}
}

func TestTooManyUnknowns(t *testing.T) {
	f := over()
	for _, o := range append(wrongOptions(), by(1)) {
		refuses(t, f, resting(), o, api.ErrSize)
		refuses(t, f, api.Setting{}, o, api.ErrSize)
	}
	refusesReport(t, f, bothSegs(), ones(49), make([]int64, len(f.Devs)), api.ErrSize)
	refusesReport(t, f, nil, api.Solution{}, nil, api.ErrSize)
	refusesReport(t, f, []int{9, 9}, api.Solution{}, []int64{edge + 1}, api.ErrSize)
	f.Method = 0
	refuses(t, f, resting(), by(1), api.ErrFlat)
	refusesReport(t, f, bothSegs(), ones(49), make([]int64, len(f.Devs)), api.ErrFlat)
}

func TestSettingsAndOptionsThatAreNotRight(t *testing.T) {
	for _, s := range wrongSettings() {
		for _, o := range append(wrongOptions(), by(1)) {
			refuses(t, base(), s, o, api.ErrSet)
		}
	}
	for _, s := range []api.Setting{resting(), timed(api.Euler), timed(api.Trap), {Mode: api.Op, Method: 77, Step: n(10, 10)}} {
		for _, o := range wrongOptions() {
			refuses(t, base(), s, o, api.ErrArg)
		}
		made(t, base(), s, by(1))
	}
}

func TestChoicesThatAreNotRight(t *testing.T) {
	f := base()
	s := made(t, f, timed(api.Euler), by(64))
	for _, segs := range wrongChoices() {
		for _, a := range []plan.Ask{said(f), {}, {Prev: make([]int64, 9)}, {Prev: []int64{edge + 1}}, with(said(f), 3, edge+1)} {
			refusesStep(t, s, segs, a, api.ErrSeg)
		}
		for _, x := range []api.Solution{ones(9), ones(8), {}, {X: notRight(), D: limb.Of(1)}} {
			refusesReport(t, f, segs, x, make([]int64, 12), api.ErrSeg)
			refusesReport(t, f, segs, x, []int64{edge + 1}, api.ErrSeg)
		}
	}
	refusesStep(t, made(t, laid(""), resting(), by(1)), []int{0}, plan.Ask{}, api.ErrSeg)
	refusesReport(t, laid(""), []int{0}, solution("/ 1"), nil, api.ErrSeg)
	counted(t, s, 0, 0, 0)
	// Each segment is one of its own device's model.
	g := laid("d1 a 0 d / s1 a 0 a 0 s / r1 a 0 1 / .model d d 1 1 2 2 3 3 4 / .model s s 1 0 2")
	for _, segs := range [][]int{{4, 0}, {0, 2}, {0, 3}, {3, 2}} {
		refusesStep(t, made(t, g, resting(), by(1)), segs, said(g), api.ErrSeg)
		refusesReport(t, g, segs, ones(1), make([]int64, 3), api.ErrSeg)
	}
	reports(t, g, []int{3, 1}, ones(1), make([]int64, 3), "1", "-5999999996 2 1")
}

// What an ask is refused for changes nothing, and its lengths are told of ahead of its numbers.
func TestAsksThatAreNotRight(t *testing.T) {
	f := base()
	s := made(t, f, timed(api.Euler), by(64))
	for _, prev := range []int{0, 1, 8, 9, 10, 1 << 12} {
		for _, src := range []int{0, 1, 11, 12, 13, 64, 1 << 12} {
			if prev == 9 && src == 12 {
				continue
			}
			refusesStep(t, s, bothSegs(), plan.Ask{Prev: make([]int64, prev), Src: make([]int64, src)}, api.ErrSize)
			refusesStep(t, s, bothSegs(), plan.Ask{Prev: slices.Repeat([]int64{edge + 1}, prev), Src: slices.Repeat([]int64{-edge - 1}, src)}, api.ErrSize)
		}
	}
	for _, off := range offGrid() {
		for place := range 12 {
			refusesStep(t, s, bothSegs(), plan.Ask{Prev: make([]int64, 9), Src: at(place, 12, off)}, api.ErrRange)
			refusesStep(t, s, bothSegs(), plan.Ask{Prev: at(place%9, 9, off), Src: make([]int64, 12)}, api.ErrRange)
		}
	}
	counted(t, s, 0, 0, 0)
	// Ahead of what the equations are refused for.
	g := laid("i1 a 0 1")
	s = made(t, g, resting(), by(1))
	refusesStep(t, s, nil, plan.Ask{}, api.ErrSize)
	refusesStep(t, s, nil, plan.Ask{Prev: []int64{0}, Src: []int64{edge + 1}}, api.ErrRange)
	refusesStep(t, s, nil, plan.Ask{Prev: []int64{0}, Src: []int64{edge}}, api.ErrSingular)
	counted(t, s, 1, 0, 0)
	// The ends of the grid are on it.
	h := laid("v1 a 0 1 / r1 a 0 1")
	for _, x := range []int64{edge, -edge} {
		found, err := made(t, h, resting(), by(1)).Step(nil, plan.Ask{Prev: []int64{x, -x}, Src: []int64{x, -x}})
		if err != api.OK {
			t.Fatal(err)
		}
		reports(t, h, nil, found.Solution, []int64{x, -x}, numbers([]int64{x, -x}), numbers([]int64{-x, x}))
	}
}

func TestSolutionsThatAreNotRight(t *testing.T) {
	f := base()
	src := make([]int64, 12)
	for _, count := range []int{0, 1, 8, 10, 48, 1 << 12} {
		refusesReport(t, f, bothSegs(), ones(count), src, api.ErrSize)
		refusesReport(t, f, bothSegs(), api.Solution{X: slices.Repeat([]api.Int{{Neg: true}}, count)}, slices.Repeat([]int64{edge + 1}, 12), api.ErrSize)
	}
	for _, count := range []int{0, 1, 11, 13, 64, 1 << 12} {
		refusesReport(t, f, bothSegs(), ones(9), make([]int64, count), api.ErrSize)
		refusesReport(t, f, bothSegs(), api.Solution{X: slices.Repeat([]api.Int{{Neg: true}}, 9)}, slices.Repeat([]int64{edge + 1}, count), api.ErrSize)
	}
	off := slices.Repeat([]int64{edge + 1}, 12)
	for _, a := range notRight() {
		for place := range 9 {
			x := ones(9)
			x.X[place] = a
			refusesReport(t, f, bothSegs(), x, src, api.ErrInt)
			refusesReport(t, f, bothSegs(), x, off, api.ErrInt)
		}
		refusesReport(t, f, bothSegs(), api.Solution{X: ones(9).X, D: a}, src, api.ErrInt)
		refusesReport(t, laid(""), nil, api.Solution{D: a}, nil, api.ErrInt)
	}
	for _, below := range []api.Int{{}, limb.Of(-1), limb.Of(-3), {Neg: true, Limbs: slices.Repeat([]uint32{1}, 72)}} {
		refusesReport(t, f, bothSegs(), api.Solution{X: ones(9).X, D: below}, src, api.ErrInt)
		refusesReport(t, f, bothSegs(), api.Solution{X: slices.Repeat([]api.Int{whole("2^2303")}, 9), D: below}, off, api.ErrInt)
		refusesReport(t, laid(""), nil, api.Solution{D: below}, nil, api.ErrInt)
	}
	for _, x := range offGrid() {
		for place := range 12 {
			refusesReport(t, f, bothSegs(), ones(9), at(place, 12, x), api.ErrRange)
		}
	}
	reports(t, f, bothSegs(), ones(9), at(4, 12, edge), "1 1 1 1 1 1 1 1 1", "1 0 1 1 1000000000000000000 1 1 1 1 1 -4000000000 0")
	reports(t, f, bothSegs(), ones(9), at(4, 12, -edge), "1 1 1 1 1 1 1 1 1", "1 0 1 1 -1000000000000000000 1 1 1 1 1 -4000000000 0")
}
