package sweep_test

import (
	"math"
	"slices"
	"strconv"
	"strings"
	"testing"

	"shunt/api"
	"shunt/sweep"
)

const allKinds = "rclviegfhtds"

// base is a right flat circuit with a device of every kind. It has 9 unknowns.
func base() api.Flat {
	return hand("0 a b c", "v v1 1 0 dc 1", "r r1 1 2 1", "c c1 2 0 1", "l l1 2 3 1", "i i1 3 0 pwl 0 1 2 3", "e e1 1 2 3 0 1", "g g1 1 2 3 0 1", "f f1 1 0 0 1", "h h1 2 3 0 1",
		"t t1 1 2 3 0 1", "d d1 1 2 m d 1 2 3", "s s1 1 2 3 0 q s 1 2 3")
}

// full is the base with as many unknowns as may be.
func full() api.Flat {
	f := base()
	for k := range 39 {
		f.Devs = append(f.Devs, dev("c big"+strconv.Itoa(k)+" 1 0 1"))
	}
	return f
}

// over is the base with one unknown too many.
func over() api.Flat {
	f := full()
	f.Devs = append(f.Devs, dev("c big39 1 0 1"))
	return f
}

// A spoiling makes a flat circuit one that isn't right.
type spoiling func(f *api.Flat)

func wholeSpoilings() []spoiling {
	return []spoiling{
		func(f *api.Flat) { *f = api.Flat{} },
		func(f *api.Flat) { f.Step = api.Num{} },
		func(f *api.Flat) { f.Step = n(-1, 0) },
		func(f *api.Flat) { f.Step = n(10, 0) },
		func(f *api.Flat) { f.Method = 0 },
		func(f *api.Flat) { f.Method = 3 },
		func(f *api.Flat) { f.Nodes = nil },
		func(f *api.Flat) { f.Nodes = f.Nodes[1:] },
		func(f *api.Flat) { f.Nodes = f.Nodes[:3] },
		func(f *api.Flat) { f.Nodes[0] = "00" },
		func(f *api.Flat) { f.Nodes[2] = f.Nodes[1] },
		func(f *api.Flat) { f.Nodes[2] = "" },
		func(f *api.Flat) { f.Nodes[2] = strings.Repeat("x.", 9) + "a" },
		func(f *api.Flat) { f.Nodes, f.Devs = nil, nil },
		func(f *api.Flat) {
			for k := len(f.Nodes); k < 33; k++ {
				f.Nodes = append(f.Nodes, "m"+strconv.Itoa(k))
			}
		},
		func(f *api.Flat) {
			for k := len(f.Devs); k < 65; k++ {
				f.Devs = append(f.Devs, dev("r m"+strconv.Itoa(k)+" 0 0 1"))
			}
		},
		func(f *api.Flat) { f.Devs = append(f.Devs, api.Dev{}) },
		func(f *api.Flat) { f.Devs = append(f.Devs, f.Devs[1]) },
	}
}

// devSpoilings are those of each device.
func devSpoilings() []spoiling {
	var l []spoiling
	add := func(kinds string, do func(d *api.Dev)) {
		for i, d := range base().Devs {
			if strings.IndexByte(kinds, d.Kind) >= 0 {
				l = append(l, func(f *api.Flat) { do(&f.Devs[i]) })
			}
		}
	}
	for _, kind := range []byte{0, 'x', 'R', 255} {
		add(allKinds, func(d *api.Dev) { d.Kind = kind })
	}
	for _, node := range []int{-1, 4, math.MaxInt, math.MinInt} {
		for at := range 4 {
			add(allKinds, func(d *api.Dev) { d.Nodes[min(at, len(d.Nodes)-1)] = node })
		}
	}
	add(allKinds, func(d *api.Dev) { d.Name = "R1" })
	add(allKinds, func(d *api.Dev) { d.Nodes = nil })
	add(allKinds, func(d *api.Dev) { d.Nodes = d.Nodes[1:] })
	add(allKinds, func(d *api.Dev) { d.Nodes = append(d.Nodes, 0) })
	add("egts", func(d *api.Dev) { d.Nodes = d.Nodes[:2] })
	add("rclvifhd", func(d *api.Dev) { d.Nodes = append(d.Nodes, 0, 0) })
	// A kind with four nodes in the place of one with two.
	add("rclvifhd", func(d *api.Dev) { d.Kind = 'e' })
	add(allKinds, func(d *api.Dev) { d.Value = n(10, 0) })
	add("rcl", func(d *api.Dev) { d.Value = api.Num{} })
	add("vids", func(d *api.Dev) { d.Value = n(1, 0) })
	add("vi", func(d *api.Dev) { d.Wave = api.Wave{} })
	add("rclegfhtds", func(d *api.Dev) { d.Wave = dev("v v 0 0 dc 1").Wave })
	add("ds", func(d *api.Dev) { d.Model = api.Model{} })
	add("ds", func(d *api.Dev) { d.Model.G = nil })
	add("d", func(d *api.Dev) { d.Model.Kind = 's' })
	add("s", func(d *api.Dev) { d.Model.Kind = 'd' })
	add("rclviegfht", func(d *api.Dev) { d.Model.Name = "m" })
	add(allKinds, func(d *api.Dev) { d.Ref = 1 })
	add(allKinds, func(d *api.Dev) { d.Ref = -1 })
	add("fh", func(d *api.Dev) { d.Ref = 12 })
	add("v", func(d *api.Dev) { d.Kind = 'i' })
	return l
}

func spoilings() []spoiling { return slices.Concat(wholeSpoilings(), devSpoilings()) }

// wrongOptions are those that aren't right.
func wrongOptions() []api.Options {
	l := []api.Options{{}, {Limbs: 33, Iter: 65, Workers: 17}, {Limbs: -1, Iter: -1, Workers: -1}}
	for _, limbs := range []int{0, 33, -1, 64, 72, 1<<32 + 1, math.MaxInt, math.MinInt} {
		l = append(l, api.Options{Limbs: limbs, Iter: 8, Workers: 1})
	}
	for _, iter := range []int{0, 65, -1, 1 << 32, 1<<32 + 1, math.MaxInt, math.MinInt} {
		l = append(l, api.Options{Limbs: 32, Iter: iter, Workers: 1})
	}
	for _, workers := range []int{0, 17, -1, 64, 1<<32 + 1, math.MaxInt, math.MinInt} {
		l = append(l, api.Options{Limbs: 32, Iter: 8, Workers: workers})
	}
	return l
}

// anyOptions are a few of both sorts.
func anyOptions() []api.Options { return []api.Options{by(8), {}, {Limbs: 33, Iter: 8, Workers: 1}} }

// wrongRanges are those that aren't right for the base, whatever their values are.
func wrongRanges() []sweep.Range {
	var l []sweep.Range
	for _, place := range []int{-1, 1, 2, 3, 5, 6, 7, 8, 9, 10, 11, 12, 13, 64, 1 << 32, 1<<32 + 4, math.MaxInt, math.MinInt} {
		l = append(l, sweep.Range{Dev: place, Count: 1})
	}
	for _, count := range []int{0, -1, 257, 258, 512, 1 << 32, 1<<32 + 1, math.MaxInt, math.MinInt} {
		l = append(l, sweep.Range{Dev: 0, Count: count}, sweep.Range{Dev: 4, By: 1, Count: count})
	}
	return append(l, sweep.Range{}, sweep.Range{Dev: 1, Count: 257})
}

// offGrid are right ranges but for a value of them.
func offGrid() []sweep.Range {
	return []sweep.Range{
		{From: edge + 1, Count: 1}, {From: -edge - 1, Count: 1}, {From: math.MaxInt64, Count: 1}, {From: math.MinInt64, Count: 256},
		{From: edge, By: 1, Count: 2}, {From: -edge, By: -1, Count: 2}, {By: math.MaxInt64, Count: 2}, {By: math.MinInt64, Count: 3},
	}
}

// anyRanges are a few of all sorts.
func anyRanges() []sweep.Range {
	return []sweep.Range{{Count: 1}, {Dev: 4, By: volt, Count: 256}, {}, {Dev: 1, Count: 1}, {Dev: -1, Count: 1}, {Count: 257}, {From: edge + 1, Count: 1}, {Dev: 64, From: edge, By: 1, Count: 0}}
}

// The base isn't refused ahead of its points: its equations are.
func TestTheBaseIsRight(t *testing.T) {
	for _, f := range []api.Flat{base(), full()} {
		for _, o := range []api.Options{{Limbs: 1, Iter: 1, Workers: 1}, {Limbs: 32, Iter: 64, Workers: 16}} {
			for _, place := range []int{0, 4} {
				q := sweep.Range{Dev: place, From: -volt, By: volt, Count: 3}
				got := answer(f, o, q)
				if strings.HasSuffix(got, " ; 0 0 0") || got != meant(f, o, q) {
					t.Errorf("Points %v %v: %s", o, q, got)
				}
			}
		}
	}
}

// A flat circuit that isn't right, whatever else isn't.
func TestFlatsThatAreNotRight(t *testing.T) {
	for k, spoil := range spoilings() {
		f := base()
		spoil(&f)
		for _, o := range anyOptions() {
			for _, q := range anyRanges() {
				refuses(t, f, o, q, api.ErrFlat)
			}
		}
		if t.Failed() {
			t.Fatal("spoiling ", k)
		}
	}
	refuses(t, api.Flat{}, api.Options{}, sweep.Range{}, api.ErrFlat)
}

func TestTooManyUnknowns(t *testing.T) {
	f := over()
	for _, o := range anyOptions() {
		for _, q := range anyRanges() {
			refuses(t, f, o, q, api.ErrSize)
		}
	}
	f.Method = 0
	refuses(t, f, by(1), sweep.Range{Count: 1}, api.ErrFlat)
}

// Options, and ranges, that aren't right, ahead of values and sources off the grid, and of what the points end with.
func TestOptionsAndRangesThatAreNotRight(t *testing.T) {
	tooFar := base()
	tooFar.Devs[0].Wave, tooFar.Devs[4].Wave = dev("v v 0 0 dc 2e9").Wave, dev("i i 0 0 dc -2e9").Wave
	for _, f := range []api.Flat{base(), full(), tooFar} {
		for _, o := range wrongOptions() {
			for _, q := range slices.Concat(anyRanges(), offGrid()) {
				refuses(t, f, o, q, api.ErrArg)
			}
		}
		for _, q := range wrongRanges() {
			for _, from := range []int64{0, volt, edge, edge + 1, math.MinInt64} {
				for _, step := range []int64{0, 1, math.MaxInt64, math.MinInt64} {
					q.From, q.By = from, step
					refuses(t, f, by(1), q, api.ErrArg)
					refuses(t, f, api.Options{}, q, api.ErrArg)
				}
			}
		}
	}
	for _, lines := range []string{"r1 a 0 1 / r2 a 0 -1", "d1 a 0 d / .model d d 1", "c1 a 0 1"} {
		for place := -1; place < 3; place++ {
			refuses(t, laid(lines), by(1), sweep.Range{Dev: place, Count: 1}, api.ErrArg)
		}
	}
	refuses(t, laid(""), by(1), sweep.Range{Count: 1}, api.ErrArg)
	refuses(t, laid(""), by(1), sweep.Range{Dev: -1, Count: 1}, api.ErrArg)
}

// Values, and sources, off the grid, ahead of what the points end with.
func TestValuesAndSourcesOffTheGrid(t *testing.T) {
	for _, lines := range []string{divider, diode, "v1 a 0 1 / v2 a 0 1", "i1 a 0 1", "v1 a 0 1 / s1 a 0 a 0 s / .model s s 1 0.5 1", "v1 a 0 1e9 / r1 a 0 0.1", "v1 a 0 1e9 / i1 0 b 7 / r1 a 0 1k / d1 a 0 d / .model d d 1"} {
		for _, q := range offGrid() {
			for _, o := range []api.Options{by(1), {Limbs: 1, Iter: 64, Workers: 16}} {
				refuses(t, laid(lines), o, q, api.ErrRange)
			}
		}
	}
	// One source of several, the range's own too; the first or the last.
	for _, lines := range []string{"v1 a 0 1 / v2 a 0 1 / i1 a 0 1e9 / v3 a 0 2e9", "i1 a 0 2e9 / i2 a 0 1", "v1 a 0 table 2e9 0 / v2 a 0 0", "v1 a 0 0 / v2 a 0 table -2e9 0", "v1 a 0 2e9 / r1 a 0 1 / d1 a 0 d / .model d d 1"} {
		for _, count := range []int{1, 2, 256} {
			refuses(t, laid(lines), narrow(1), sweep.Range{By: 1, Count: count}, api.ErrRange)
			refuses(t, laid(lines), narrow(1), sweep.Range{From: edge, By: 1, Count: count}, api.ErrRange)
		}
	}
}

// Of what points end with the first point's is told, and of one point its solution's ahead of its report's.
func TestTheFirstPointThatIsRefused(t *testing.T) {
	// A current off the grid from 1 V on; numbers of more than two limbs from 18.4 V on.
	f := laid("v1 a 0 0 / r1 a 0 1n")
	two := api.Options{Limbs: 2, Iter: 1, Workers: 3}
	points(t, f, two, sweep.Range{From: 0, By: 6 * volt, Count: 8}, asError(api.ErrRange, 1, 1, 2, 8))
	points(t, f, two, sweep.Range{From: 42 * volt, By: -6 * volt, Count: 8}, asError(api.ErrWide, 0, 1, 2, 8))
	points(t, f, two, sweep.Range{From: -12 * volt, By: 12 * volt, Count: 6}, asError(api.ErrRange, 0, 1, 2, 6))
	points(t, f, two, sweep.Range{From: 0, By: 24 * volt, Count: 4}, asError(api.ErrWide, 1, 1, 2, 4))
	// With a bent device, too, which goes no further.
	g := laid("v1 a 0 0 / r1 a 0 1n / d1 0 0 d / .model d d 1")
	points(t, g, two, sweep.Range{From: 0, By: 6 * volt, Count: 8}, asError(api.ErrRange, 1, 1, 2, 2))
	points(t, g, two, sweep.Range{From: 42 * volt, By: -6 * volt, Count: 8}, asError(api.ErrWide, 0, 1, 2, 1))
	points(t, g, two, sweep.Range{From: -12 * volt, By: 12 * volt, Count: 6}, asError(api.ErrRange, 0, 1, 2, 1))
	points(t, g, two, sweep.Range{From: 0, By: 24 * volt, Count: 4}, asError(api.ErrWide, 1, 1, 2, 2))
	// Of one point the first choice's: at first none holds, then one has no solution.
	h := laid("v1 a 0 0 / r1 a b 1 / s1 b 0 a 0 s / .model s s 0 1 -1")
	points(t, h, by(1), sweep.Range{From: 0, By: volt, Count: 4}, asError(api.ErrNoSegment, 2, 1, 3, 3))
	points(t, h, by(2), sweep.Range{From: 0, By: volt, Count: 4}, asError(api.ErrSingular, 2, 2, 5, 3))
	points(t, h, api.Options{Limbs: 1, Iter: 2, Workers: 1}, sweep.Range{From: 0, By: 7 * volt, Count: 4}, asError(api.ErrWide, 1, 1, 3, 2))
}
