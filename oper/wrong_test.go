package oper_test

import (
	"math"
	"slices"
	"strconv"
	"strings"
	"testing"

	"shunt/api"
)

const allKinds = "rclviegfhtds"

// base is a right flat circuit with a device of every kind. It has 9 unknowns.
func base() api.Flat {
	return hand("0 a b c", "v v1 1 0 dc 1", "r r1 1 2 1", "c c1 2 0 1", "l l1 2 3 1", "i i1 3 0 pwl 0 1 2 3", "e e1 1 2 3 0 1", "g g1 1 2 3 0 1", "f f1 1 0 0 1", "h h1 2 3 0 1",
		"t t1 1 2 3 0 1", "d d1 1 2 m d 1 2 3", "s s1 1 2 3 0 q s 1 2 3")
}

// full is the base with as many unknowns as may be.
func full() api.Flat {
	f := base()
	for k := range 39 {
		f.Devs = append(f.Devs, dev("c big"+strconv.Itoa(k)+" 1 0 1"))
	}
	return f
}

// over is the base with one unknown too many.
func over() api.Flat {
	f := full()
	f.Devs = append(f.Devs, dev("c big39 1 0 1"))
	return f
}

// A spoiling makes a flat circuit one that isn't right.
type spoiling func(f *api.Flat)

func wholeSpoilings() []spoiling {
	return []spoiling{
		func(f *api.Flat) { *f = api.Flat{} },
		func(f *api.Flat) { f.Step = api.Num{} },
		func(f *api.Flat) { f.Step = n(-1, 0) },
		func(f *api.Flat) { f.Step = n(10, 0) },
		func(f *api.Flat) { f.Method = 0 },
		func(f *api.Flat) { f.Method = 3 },
		func(f *api.Flat) { f.Nodes = nil },
		func(f *api.Flat) { f.Nodes = f.Nodes[1:] },
		func(f *api.Flat) { f.Nodes = f.Nodes[:3] },
		func(f *api.Flat) { f.Nodes[0] = "00" },
		func(f *api.Flat) { f.Nodes[2] = f.Nodes[1] },
		func(f *api.Flat) { f.Nodes[2] = "" },
		func(f *api.Flat) { f.Nodes[2] = strings.Repeat("x.", 9) + "a" },
		func(f *api.Flat) { f.Nodes, f.Devs = nil, nil },
		func(f *api.Flat) {
			for k := len(f.Nodes); k < 33; k++ {
				f.Nodes = append(f.Nodes, "m"+strconv.Itoa(k))
			}
		},
		func(f *api.Flat) {
			for k := len(f.Devs); k < 65; k++ {
				f.Devs = append(f.Devs, dev("r m"+strconv.Itoa(k)+" 0 0 1"))
			}
		},
		func(f *api.Flat) { f.Devs = append(f.Devs, api.Dev{}) },
		func(f *api.Flat) { f.Devs = append(f.Devs, f.Devs[1]) },
	}
}

// devSpoilings are those of each device.
func devSpoilings() []spoiling {
	var l []spoiling
	add := func(kinds string, do func(d *api.Dev)) {
		for i, d := range base().Devs {
			if strings.IndexByte(kinds, d.Kind) >= 0 {
				l = append(l, func(f *api.Flat) { do(&f.Devs[i]) })
			}
		}
	}
	for _, kind := range []byte{0, 'x', 'R', 255} {
		add(allKinds, func(d *api.Dev) { d.Kind = kind })
	}
	for _, node := range []int{-1, 4, math.MaxInt, math.MinInt} {
		for at := range 4 {
			add(allKinds, func(d *api.Dev) { d.Nodes[min(at, len(d.Nodes)-1)] = node })
		}
	}
	add(allKinds, func(d *api.Dev) { d.Name = "R1" })
	add(allKinds, func(d *api.Dev) { d.Nodes = nil })
	add(allKinds, func(d *api.Dev) { d.Nodes = d.Nodes[1:] })
	add(allKinds, func(d *api.Dev) { d.Nodes = append(d.Nodes, 0) })
	add("egts", func(d *api.Dev) { d.Nodes = d.Nodes[:2] })
	add("rclvifhd", func(d *api.Dev) { d.Nodes = append(d.Nodes, 0, 0) })
	// A kind with four nodes in the place of one with two.
	add("rclvifhd", func(d *api.Dev) { d.Kind = 'e' })
	add(allKinds, func(d *api.Dev) { d.Value = n(10, 0) })
	add("rcl", func(d *api.Dev) { d.Value = api.Num{} })
	add("vids", func(d *api.Dev) { d.Value = n(1, 0) })
	add("vi", func(d *api.Dev) { d.Wave = api.Wave{} })
	add("rclegfhtds", func(d *api.Dev) { d.Wave = dev("v v 0 0 dc 1").Wave })
	add("ds", func(d *api.Dev) { d.Model = api.Model{} })
	add("ds", func(d *api.Dev) { d.Model.G = nil })
	add("d", func(d *api.Dev) { d.Model.Kind = 's' })
	add("s", func(d *api.Dev) { d.Model.Kind = 'd' })
	add("rclviegfht", func(d *api.Dev) { d.Model.Name = "m" })
	add(allKinds, func(d *api.Dev) { d.Ref = 1 })
	add(allKinds, func(d *api.Dev) { d.Ref = -1 })
	add("fh", func(d *api.Dev) { d.Ref = 12 })
	add("v", func(d *api.Dev) { d.Kind = 'i' })
	return l
}

func spoilings() []spoiling { return slices.Concat(wholeSpoilings(), devSpoilings()) }

// wrongOptions are those that aren't right.
func wrongOptions() []api.Options {
	l := []api.Options{{}, {Limbs: 33, Iter: 65, Workers: 17}, {Limbs: -1, Iter: -1, Workers: -1}}
	for _, limbs := range []int{0, 33, -1, 64, 72, 1<<32 + 1, math.MaxInt, math.MinInt} {
		l = append(l, api.Options{Limbs: limbs, Iter: 8, Workers: 1})
	}
	for _, iter := range []int{0, 65, -1, 1 << 32, 1<<32 + 1, math.MaxInt, math.MinInt} {
		l = append(l, api.Options{Limbs: 32, Iter: iter, Workers: 1})
	}
	for _, workers := range []int{0, 17, -1, 64, 1<<32 + 1, math.MaxInt, math.MinInt} {
		l = append(l, api.Options{Limbs: 32, Iter: 8, Workers: workers})
	}
	return l
}

// anyOptions are a few of both sorts.
func anyOptions() []api.Options { return []api.Options{by(8), {}, {Limbs: 33, Iter: 8, Workers: 1}} }

func wrongParts() []int {
	return []int{0, -1, 65, 66, -64, 128, 1 << 32, 1<<32 + 1, 1<<32 + 64, math.MaxInt, math.MinInt}
}

func wrongSteps() []int {
	return []int{-1, -2, api.MaxStep + 1, 1 << 32, 1<<32 + 1, math.MaxInt, math.MinInt}
}

// The base isn't refused ahead of its parts: its equations are.
func TestTheBaseIsRight(t *testing.T) {
	for _, f := range []api.Flat{base(), full()} {
		for _, o := range []api.Options{{Limbs: 1, Iter: 1, Workers: 1}, {Limbs: 32, Iter: 64, Workers: 16}} {
			for _, parts := range []int{1, 64} {
				for _, step := range []int{0, api.MaxStep} {
					got := answer(f, o, step, parts)
					if strings.HasSuffix(got, " | 0 0 0") || got != meant(f, o, step, parts) {
						t.Errorf("Point %v %d %d: %s", o, step, parts, got)
					}
				}
			}
		}
	}
}

// A flat circuit that isn't right, whatever else isn't.
func TestFlatsThatAreNotRight(t *testing.T) {
	for k, spoil := range spoilings() {
		f := base()
		spoil(&f)
		for _, o := range anyOptions() {
			for _, parts := range []int{1, 64, 0, 65} {
				for _, step := range []int{0, -1} {
					refuses(t, f, o, step, parts, api.ErrFlat)
				}
			}
		}
		if t.Failed() {
			t.Fatal("spoiling ", k)
		}
	}
	refuses(t, api.Flat{}, api.Options{}, -1, 0, api.ErrFlat)
}

func TestTooManyUnknowns(t *testing.T) {
	f := over()
	for _, o := range anyOptions() {
		for _, parts := range []int{1, 64, 0, 65} {
			for _, step := range []int{0, -1, api.MaxStep + 1} {
				refuses(t, f, o, step, parts, api.ErrSize)
			}
		}
	}
	f.Method = 0
	refuses(t, f, by(1), 0, 1, api.ErrFlat)
}

// Options, and parts, that aren't right, ahead of steps that aren't, of sources off the grid, and of what the parts end with.
func TestOptionsAndPartsThatAreNotRight(t *testing.T) {
	for _, lines := range []string{divider, "v1 a 0 1.00000001e9 / r1 a 0 1", "i1 a 0 1", "r1 a 0 1", "", "v1 a 0 1e9 / r1 a 0 0.1"} {
		f := laid(lines)
		for _, step := range []int{0, -1, api.MaxStep + 1} {
			for _, o := range wrongOptions() {
				for _, parts := range []int{1, 64, 0, 65} {
					refuses(t, f, o, step, parts, api.ErrArg)
				}
			}
			for _, parts := range wrongParts() {
				refuses(t, f, by(1), step, parts, api.ErrArg)
			}
		}
	}
}

// Steps that aren't right, and sources off the grid, ahead of what the parts end with.
func TestStepsThatAreNotRight(t *testing.T) {
	for _, lines := range []string{divider, "v1 a 0 1 / v2 a 0 1", "v1 a 0 1 / s1 a 0 a 0 s / .model s s 1 0.5 1", "v1 a 0 1e9 / r1 a 0 0.1"} {
		for _, step := range wrongSteps() {
			for _, o := range []api.Options{by(1), {Limbs: 1, Iter: 64, Workers: 16}} {
				for _, parts := range []int{1, 2, 64} {
					refuses(t, laid(lines), o, step, parts, api.ErrRange)
				}
			}
		}
	}
	// One source of several; the first or the last.
	for _, lines := range []string{"v1 a 0 1 / v2 a 0 1 / i1 a 0 1e9 / v3 a 0 2e9", "i1 a 0 2e9 / i2 a 0 1", "v1 a 0 table 0 2e9 / v2 a 0 0"} {
		for _, parts := range []int{1, 2, 64} {
			refuses(t, laid(lines), narrow(1), 1, parts, api.ErrRange)
		}
	}
}

// Of what the parts end with the first part's is told; of one part's, the first choice's; a report's behind all of them.
func TestTheFirstPartThatIsRefused(t *testing.T) {
	// Choice by choice: at first none holds, then one has no solution, then numbers are wide.
	f := laid("v1 a 0 3 / r1 a b 1 / s1 b 0 a 0 s / .model s s 0 1 -1")
	points(t, f, by(1), 0, 1, asError(api.ErrNoSegment, 1, 3, 1))
	points(t, f, by(2), 0, 1, asError(api.ErrSingular, 2, 5, 1))
	points(t, f, by(1), 0, 3, asError(api.ErrNoSegment, 1, 3, 2))
	points(t, f, by(2), 0, 3, asError(api.ErrSingular, 2, 5, 2))
	points(t, f, by(2), 0, 64, asError(api.ErrSingular, 2, 5, 22))
	g := laid("v1 a 0 7 / r1 a b 1 / s1 b 0 a 0 s / .model s s 0 1 -1")
	points(t, g, api.Options{Limbs: 1, Iter: 2, Workers: 1}, 0, 1, asError(api.ErrWide, 1, 3, 1))
	points(t, g, api.Options{Limbs: 1, Iter: 2, Workers: 1}, 0, 2, asError(api.ErrSingular, 2, 5, 1))
	points(t, g, api.Options{Limbs: 1, Iter: 1, Workers: 1}, 0, 2, asError(api.ErrNoSegment, 1, 3, 1))
	points(t, g, api.Options{Limbs: 1, Iter: 1, Workers: 1}, 0, 7, asError(api.ErrNoSegment, 1, 3, 2))
	// What would be reported is off the grid from the first part on.
	h := laid("v1 a 0 1e9 / r1 a 0 0.1 / d1 b 0 d / r2 a b 1 / .model d d 1 9e8 1")
	points(t, h, by(1), 0, 1, asError(api.ErrRange, 1, 3, 1))
	points(t, h, by(1), 0, 64, asError(api.ErrRange, 1, 3, 64))
}
