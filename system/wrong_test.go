package system_test

import (
	"math"
	"slices"
	"strconv"
	"strings"
	"testing"

	"shunt/api"
	"shunt/flat"
	"shunt/limb"
	"shunt/stamp"
	"shunt/system"
)

// base is a right flat circuit with a device of every kind, the diode at the place 10 and the switch at 11, each of two
// segments.
func base() api.Flat {
	return hand("0 a b c", "v v1 1 0 dc 1", "r r1 1 2 1", "c c1 2 0 1", "l l1 2 3 1", "i i1 3 0 pwl 0 1 2 3", "e e1 1 2 3 0 1", "g g1 1 2 3 0 1", "f f1 1 0 0 1", "h h1 2 3 0 1",
		"t t1 1 2 3 0 1", "d d1 1 2 m d 1 2 3", "s s1 1 2 3 0 q s 1 2 3")
}

// fullFlat is the base with as many unknowns as may be.
func fullFlat() api.Flat {
	f := base()
	for k := range 39 {
		f.Devs = append(f.Devs, dev("c big"+strconv.Itoa(k)+" 1 0 1"))
	}
	return f
}

func TestTheBaseIsRight(t *testing.T) {
	for _, f := range []api.Flat{base(), fullFlat()} {
		total, _ := flat.Unknowns(f)
		for _, s := range settings() {
			if got, err := system.Build(f, s, []int{1, 0}); err != api.OK || len(got.Rows) != total {
				t.Error(s, len(got.Rows), err)
			}
		}
		if got, err := system.Sources(f, 0); err != api.OK || len(got) != len(f.Devs) {
			t.Error(got, err)
		}
	}
}

// A spoiling makes a flat circuit one that isn't right.
type spoiling func(f *api.Flat)

func wholeSpoilings() []spoiling {
	return []spoiling{
		func(f *api.Flat) { *f = api.Flat{} },
		func(f *api.Flat) { f.Step = api.Num{} },
		func(f *api.Flat) { f.Step = n(-1, 0) },
		func(f *api.Flat) { f.Step = n(10, 0) },
		func(f *api.Flat) { f.Method = 0 },
		func(f *api.Flat) { f.Method = 3 },
		func(f *api.Flat) { f.Nodes = nil },
		func(f *api.Flat) { f.Nodes = f.Nodes[1:] },
		func(f *api.Flat) { f.Nodes = f.Nodes[:3] },
		func(f *api.Flat) { f.Nodes[0] = "00" },
		func(f *api.Flat) { f.Nodes[2] = f.Nodes[1] },
		func(f *api.Flat) { f.Nodes[2] = "" },
		func(f *api.Flat) { f.Nodes[2] = strings.Repeat("x.", 9) + "a" },
		func(f *api.Flat) { f.Nodes, f.Devs = nil, nil },
		func(f *api.Flat) {
			for k := len(f.Nodes); k < 33; k++ {
				f.Nodes = append(f.Nodes, "m"+strconv.Itoa(k))
			}
		},
		func(f *api.Flat) {
			for k := len(f.Devs); k < 65; k++ {
				f.Devs = append(f.Devs, dev("r m"+strconv.Itoa(k)+" 0 0 1"))
			}
		},
		func(f *api.Flat) { f.Devs = append(f.Devs, api.Dev{}) },
		func(f *api.Flat) { f.Devs = append(f.Devs, f.Devs[1]) },
	}
}

// devSpoilings are those of each device.
func devSpoilings() []spoiling {
	var l []spoiling
	add := func(kinds string, do func(d *api.Dev)) {
		for i, d := range base().Devs {
			if strings.IndexByte(kinds, d.Kind) >= 0 {
				l = append(l, func(f *api.Flat) { do(&f.Devs[i]) })
			}
		}
	}
	for _, kind := range []byte{0, 'x', 'R', 255} {
		add(allKinds, func(d *api.Dev) { d.Kind = kind })
	}
	for _, node := range []int{-1, 4, math.MaxInt, math.MinInt} {
		for at := range 4 {
			add(allKinds, func(d *api.Dev) { d.Nodes[min(at, len(d.Nodes)-1)] = node })
		}
	}
	add(allKinds, func(d *api.Dev) { d.Name = "R1" })
	add(allKinds, func(d *api.Dev) { d.Nodes = nil })
	add(allKinds, func(d *api.Dev) { d.Nodes = d.Nodes[1:] })
	add(allKinds, func(d *api.Dev) { d.Nodes = append(d.Nodes, 0) })
	add("egts", func(d *api.Dev) { d.Nodes = d.Nodes[:2] })
	add("rclvifhd", func(d *api.Dev) { d.Nodes = append(d.Nodes, 0, 0) })
	add("rclvifhd", func(d *api.Dev) { d.Kind = 'e' })
	add(allKinds, func(d *api.Dev) { d.Value = n(10, 0) })
	add("rcl", func(d *api.Dev) { d.Value = api.Num{} })
	add("vids", func(d *api.Dev) { d.Value = n(1, 0) })
	add("vi", func(d *api.Dev) { d.Wave = api.Wave{} })
	add("vi", func(d *api.Dev) { d.Wave.Vals = append(d.Wave.Vals, n(10, 0)) })
	add("rclegfhtds", func(d *api.Dev) { d.Wave = dev("v v 0 0 dc 1").Wave })
	add("ds", func(d *api.Dev) { d.Model = api.Model{} })
	add("ds", func(d *api.Dev) { d.Model.G = nil })
	add("d", func(d *api.Dev) { d.Model.Kind = 's' })
	add("s", func(d *api.Dev) { d.Model.Kind = 'd' })
	add("rclviegfht", func(d *api.Dev) { d.Model.Name = "m" })
	add(allKinds, func(d *api.Dev) { d.Ref = 1 })
	add(allKinds, func(d *api.Dev) { d.Ref = -1 })
	add("fh", func(d *api.Dev) { d.Ref = 12 })
	add("v", func(d *api.Dev) { d.Kind = 'i' })
	return l
}

func spoilings() []spoiling { return slices.Concat(wholeSpoilings(), devSpoilings()) }

// wrongSettings are those that aren't right, for one reason or several.
func wrongSettings() []api.Setting {
	var l []api.Setting
	for _, mode := range []int{0, 3, -1, -2, 255, 257, 258, 1<<32 + 1, 1<<32 + 2, math.MaxInt, math.MinInt} {
		l = append(l, api.Setting{Mode: mode}, api.Setting{Mode: mode, Method: api.Euler, Step: n(1, 0)}, api.Setting{Mode: mode, Method: 9, Step: n(10, 0)})
	}
	for _, method := range []int{0, 3, -1, -2, 257, 258, 1<<32 + 1, math.MaxInt, math.MinInt} {
		l = append(l, api.Setting{Mode: api.Tran, Method: method, Step: n(1, -3)}, api.Setting{Mode: api.Tran, Method: method})
	}
	for _, step := range []api.Num{{}, n(-1, 0), n(-5, -18), n(10, 0), n(100, -3), n(0, 1), n(1, -19), n(1, 10), n(1000000001, 0), n(-999999999, 9), n(math.MaxInt64, 0), n(math.MinInt64, 0), n(1, math.MaxInt), n(1, math.MinInt)} {
		l = append(l, api.Setting{Mode: api.Tran, Method: api.Euler, Step: step}, api.Setting{Mode: api.Tran, Method: api.Trap, Step: step})
	}
	return l
}

// wrongSegments are none of the base's: too many, too few, or none of a model's.
func wrongSegments() [][]int {
	l := [][]int{nil, {}, {0}, {1}, {0, 0, 0}, {1, 1, 1, 1}, {0, 0, 7}, make([]int, 12), make([]int, 64), make([]int, 1000000)}
	for _, seg := range []int{-1, 2, 3, 4, 1 << 32, math.MaxInt, math.MinInt} {
		l = append(l, []int{seg, 0}, []int{0, seg}, []int{1, seg}, []int{seg, seg}, []int{seg}, []int{0, 0, seg})
	}
	return l
}

// Each way in which a flat circuit isn't right, with everything else right, and with everything else wrong: flat's error
// comes first.
func TestFlatsThatAreNotRight(t *testing.T) {
	for i, spoil := range spoilings() {
		for _, f := range []api.Flat{base(), with(fullFlat(), "l one_more 1 0 1")} {
			spoil(&f)
			if err := flat.Check(f); err != api.ErrFlat {
				t.Fatalf("spoiling %d: flat's error is %d: %s", i, err, short(f))
			}
			for _, s := range []api.Setting{rest(), trap("1"), {}} {
				for _, segs := range [][]int{{0, 1}, nil, {9, -1}, make([]int, 70)} {
					refuses(t, f, s, segs, api.ErrFlat)
				}
			}
			for _, step := range []int{0, 7, -1, math.MaxInt} {
				refusesSources(t, f, step, api.ErrFlat)
			}
		}
	}
}

// All is right but the number of unknowns; whatever else is wrong is told behind it.
func TestTooManyUnknowns(t *testing.T) {
	more := fullFlat()
	more.Nodes = append(more.Nodes, "more")
	flats := []api.Flat{more}
	for _, line := range []string{"v k 0 0 dc 1", "v k 0 0 dc 11e8", "e k 0 0 0 0 1", "h k 0 0 0 1", "c k 0 0 1", "l k 0 0 1", "t k 0 0 0 0 1"} {
		flats = append(flats, with(fullFlat(), line))
	}
	for _, f := range flats {
		for _, segs := range append(wrongSegments(), []int{0, 1}) {
			refuses(t, f, rest(), segs, api.ErrSize)
			refuses(t, f, api.Setting{Mode: 3}, segs, api.ErrSize)
		}
		for _, step := range []int{0, 7, -1, math.MaxInt} {
			refusesSources(t, f, step, api.ErrSize)
		}
	}
}

// Segments are told behind the setting.
func TestSettingsThatAreNotRight(t *testing.T) {
	for _, s := range wrongSettings() {
		for _, segs := range append(wrongSegments(), []int{0, 1}) {
			refuses(t, base(), s, segs, api.ErrSet)
		}
		refuses(t, hand("0"), s, nil, api.ErrSet)
		refuses(t, hand("0"), s, []int{0}, api.ErrSet)
		refuses(t, fullFlat(), s, []int{0, 0}, api.ErrSet)
	}
}

// Segments that are too many, too few, or none of the model's, of diodes with one segment to four, and of a switch.
func TestSegmentsThatAreNotRight(t *testing.T) {
	for _, s := range settings() {
		for _, segs := range wrongSegments() {
			refuses(t, base(), s, segs, api.ErrSeg)
		}
		for _, f := range []api.Flat{hand("0"), hand("0 a", "r r1 1 0 1"), laid("v1 a 0 1 / c1 a 0 1 / i1 a 0 1")} {
			for _, segs := range [][]int{{0}, {1}, {-1}, {0, 0}, make([]int, 65)} {
				refuses(t, f, s, segs, api.ErrSeg)
			}
		}
	}
	f := hand("0 a b", "d d1 1 2 m d 1", "r r1 1 2 1", "d d2 1 2 m d 1 2 3", "d d3 1 2 m d 1 2 3 4 5", "s s1 1 2 1 2 m s 1 2 3", "d d4 1 2 m d 1 2 3 4 5 6 7")
	counts := []int{1, 2, 3, 2, 4}
	for at, most := range counts {
		for _, seg := range []int{-1, most, most + 1, 4, 1 << 32, math.MaxInt, math.MinInt} {
			segs := make([]int, 5)
			segs[at] = seg
			refuses(t, f, rest(), segs, api.ErrSeg)
			refuses(t, f, trap("1"), segs, api.ErrSeg)
		}
		for seg := range most {
			segs := make([]int, 5)
			segs[at] = seg
			buildIs(t, f, rest(), segs, text(meant(f, rest(), segs)))
		}
	}
	// Each of the segments is that of its own device.
	if a, b := text(meant(f, rest(), []int{0, 1, 2, 0, 3})), text(meant(f, rest(), []int{0, 0, 1, 1, 2})); a == b {
		t.Error(a)
	} else {
		buildIs(t, f, rest(), []int{0, 1, 2, 0, 3}, a)
		buildIs(t, f, rest(), []int{0, 0, 1, 1, 2}, b)
	}
}

// A flat circuit with one thing another than it was is refused as layer 9 refuses it, or told as meant; so are settings and
// segments, of which any may be wrong, behind it.
func TestTheFirstErrorIsTold(t *testing.T) {
	d := dice(129)
	met := map[api.Errno]int{}
	for range 6000 {
		f := d.flat()
		if d.one(3) {
			d.change(&f)
		}
		s, segs := d.setting(), d.segments(f)
		if d.one(4) {
			wrong := wrongSettings()
			s = wrong[d.below(len(wrong))]
		}
		switch d.below(8) {
		case 0:
			segs = append(segs, 0)
		case 1:
			segs = segs[:max(0, len(segs)-1)]
		case 2:
			if len(segs) > 0 {
				segs[d.below(len(segs))] = []int{-1, 4, 3, 2, 1}[d.below(5)]
			}
		}
		want := firstError(f, s, segs)
		met[want]++
		if want != api.OK {
			refuses(t, f, s, segs, want)
		} else {
			buildIs(t, f, s, segs, text(meant(f, s, segs)))
		}
		if err := flat.Check(f); err != api.OK {
			refusesSources(t, f, d.below(5)-2, err)
		}
	}
	for _, err := range []api.Errno{api.OK, api.ErrFlat, api.ErrSize, api.ErrSet, api.ErrSeg} {
		if met[err] < 100 {
			t.Errorf("error %d: %d times", err, met[err])
		}
	}
}

// firstError is the one that the chapter names first.
func firstError(f api.Flat, s api.Setting, segs []int) api.Errno {
	if err := flat.Check(f); err != api.OK {
		return err
	}
	if err := stamp.Check(s); err != api.OK {
		return err
	}
	var bent []api.Dev
	for _, x := range f.Devs {
		if x.Kind == 'd' || x.Kind == 's' {
			bent = append(bent, x)
		}
	}
	if len(bent) != len(segs) {
		return api.ErrSeg
	}
	for i, x := range bent {
		if segs[i] < 0 || segs[i] >= len(x.Model.G) {
			return api.ErrSeg
		}
	}
	return api.OK
}

// change does one thing to f, which may be right still.
func (d *dice) change(f *api.Flat) {
	x := &f.Devs[d.below(len(f.Devs))]
	switch d.below(8) {
	case 0:
		x.Nodes = append(x.Nodes, 0)
	case 1:
		x.Nodes = x.Nodes[1:]
	case 2:
		x.Nodes[d.below(len(x.Nodes))] = d.below(40) - 4
	case 3:
		x.Ref = d.below(len(f.Devs)+2) - 1
	case 4:
		x.Value = n(int64(d.below(11)), 0)
	case 5:
		f.Method = d.below(4)
	default:
		for k := range 48 {
			f.Devs = append(f.Devs, dev("clv"[d.below(3):][:1]+" more"+strconv.Itoa(k)+" 0 0 1"))
		}
	}
}

// cornered is a right system of three rows, each with several cells in each list.
func cornered() api.System {
	return of("2 A 0:1 1:2 2:3 H 0:1 1:2 2:3 S 0:1 5:2 63:3 K 9 / 2 A 0:1 1:2 2:3 H 0:1 1:2 2:3 S 0:1 5:2 63:3 K -9 / 2 A 0:1 1:2 2:3 H 0:1 1:2 2:3 S 0:1 5:2 63:3")
}

// A breach makes a system one that isn't right.
type breach func(s *api.System)

// wrongInts are whole numbers that aren't right.
func wrongInts() []api.Int {
	return []api.Int{{Neg: true}, {Neg: true, Limbs: []uint32{}}, {Limbs: []uint32{0}}, {Limbs: []uint32{5, 0}}, {Neg: true, Limbs: []uint32{5, 0}}, limbs(73), power(72), minus(power(72)), {Limbs: make([]uint32, 72)},
		{Limbs: make([]uint32, 1000000)}, limbs(1000000)}
}

// rowBreaches are those of Mult and K, in each of the rows.
func rowBreaches() []breach {
	var l []breach
	for i := range 3 {
		for _, mult := range append(wrongInts(), api.Int{}, api.Int{Limbs: []uint32{}}, limb.Of(-1), minus(limbs(72))) {
			l = append(l, func(s *api.System) { s.Rows[i].Mult = mult })
		}
		for _, k := range wrongInts() {
			l = append(l, func(s *api.System) { s.Rows[i].K = k })
		}
		l = append(l, func(s *api.System) { s.Rows[i] = api.Row{} })
	}
	return l
}

// cellBreaches are those of one list of cells, as it is got of a row, with the least Col that is none of its.
func cellBreaches(of func(row *api.Row) *[]api.Cell, bound int) []breach {
	var l []breach
	for i := range 3 {
		at := func(s *api.System) []api.Cell { return *of(&s.Rows[i]) }
		for k := range 3 {
			for _, col := range []int{-1, bound, bound + 1, 1 << 32, math.MaxInt, math.MinInt} {
				l = append(l, func(s *api.System) { at(s)[k].Col = col })
			}
			for _, val := range append(wrongInts(), api.Int{}, api.Int{Limbs: []uint32{}}) {
				l = append(l, func(s *api.System) { at(s)[k].Val = val })
			}
		}
		for k := range 2 {
			l = append(l, func(s *api.System) { at(s)[k].Col = at(s)[k+1].Col })
			l = append(l, func(s *api.System) { at(s)[k], at(s)[k+1] = at(s)[k+1], at(s)[k] })
		}
		l = append(l, func(s *api.System) { *of(&s.Rows[i]) = make([]api.Cell, 1) })
		l = append(l, func(s *api.System) { *of(&s.Rows[i]) = append(at(s), api.Cell{Col: 0, Val: limb.Of(1)}) })
		l = append(l, func(s *api.System) { *of(&s.Rows[i]) = append(at(s), api.Cell{Col: bound, Val: limb.Of(1)}) })
		l = append(l, func(s *api.System) {
			*of(&s.Rows[i]) = slices.Repeat([]api.Cell{{Col: 0, Val: limb.Of(1)}}, 1000000)
		})
	}
	return l
}

func breaches() []breach {
	l := []breach{
		func(s *api.System) { s.Rows = s.Rows[:2] }, // the last Col is that of no row any more
		func(s *api.System) { s.Rows = append(s.Rows, api.Row{}) },
		func(s *api.System) { s.Rows = slices.Repeat([]api.Row{{Mult: limb.Of(1)}}, 49) },
		func(s *api.System) { s.Rows = slices.Repeat(s.Rows, 17) },
		func(s *api.System) { s.Rows = slices.Repeat([]api.Row{{Mult: limb.Of(1)}}, 1000000) },
	}
	return slices.Concat(l, rowBreaches(),
		cellBreaches(func(row *api.Row) *[]api.Cell { return &row.A }, 3),
		cellBreaches(func(row *api.Row) *[]api.Cell { return &row.H }, 3),
		cellBreaches(func(row *api.Row) *[]api.Cell { return &row.S }, 64))
}

// Each way in which a system isn't right, with everything else right, and with everything else wrong: ErrPattern comes
// first.
func TestSystemsThatAreNotRight(t *testing.T) {
	fine := cornered()
	checks(t, fine, api.OK)
	rhsIs(t, fine, []int64{1, 1, 1}, append([]int64{1}, make([]int64, 63)...), "16 -2 7")
	for i, spoil := range breaches() {
		s := cornered()
		spoil(&s)
		if err := system.Check(s); err != api.ErrPattern {
			t.Errorf("breach %d: error %d: %s", i, err, short(text(s)))
		}
		for _, count := range []int{0, 2, 3, len(s.Rows)} {
			prev, src := make([]int64, count), make([]int64, 64)
			refusesRhs(t, s, prev, src, api.ErrPattern)
			refusesRhs(t, s, prev, nil, api.ErrPattern)
			if count > 0 {
				prev[count-1] = most + 1
				refusesRhs(t, s, prev, src, api.ErrPattern)
			}
		}
	}
	for _, rows := range []int{0, 1, 47, 48} {
		checks(t, api.System{Rows: slices.Repeat([]api.Row{{Mult: limb.Of(1)}}, rows)}, api.OK)
	}
}

// offGrid are numbers that aren't on the grid.
func offGrid() []int64 {
	return []int64{most + 1, -most - 1, most + 1<<32, math.MaxInt64, math.MinInt64, math.MinInt64 + 1}
}

// prev of other lengths, and src that is too short for a cell of S; numbers off the grid are told behind it.
func TestListsOfOtherLengths(t *testing.T) {
	s := cornered()
	for _, count := range []int{0, 1, 2, 4, 48, 1000000} {
		for _, devs := range []int{0, 3, 63, 64, 65} {
			prev, src := make([]int64, count), make([]int64, devs)
			refusesRhs(t, s, prev, src, api.ErrSize)
			for _, off := range offGrid() {
				if count > 0 {
					prev[count-1] = off
				}
				if devs > 0 {
					src[devs-1] = off
				}
				refusesRhs(t, s, prev, src, api.ErrSize)
			}
		}
	}
	for _, devs := range []int{0, 1, 5, 6, 63} {
		refusesRhs(t, s, []int64{1, 2, 3}, make([]int64, devs), api.ErrSize)
		refusesRhs(t, s, []int64{1, 2, most + 1}, make([]int64, devs), api.ErrSize)
	}
	// A place is missing that the first row names, or the last, or one between.
	for i := range 3 {
		rows := []string{"1 S 0:1", "1 S 0:1", "1 S 0:1"}
		rows[i] = "1 S 0:1 4:1"
		s := of(strings.Join(rows, " / "))
		refusesRhs(t, s, make([]int64, 3), make([]int64, 4), api.ErrSize)
		rhsIs(t, s, make([]int64, 3), make([]int64, 5), "0 0 0")
	}
	refusesRhs(t, of("1 S 0:1"), []int64{0}, nil, api.ErrSize)
	refusesRhs(t, of("1"), nil, nil, api.ErrSize)
	refusesRhs(t, api.System{}, []int64{0}, nil, api.ErrSize)
	refusesRhs(t, api.System{}, []int64{most + 1}, nil, api.ErrSize)
}

// Numbers off the grid, at each place of both lists, also where no cell names it; what is too long is told behind it.
func TestNumbersOffTheGrid(t *testing.T) {
	wide := long([]api.Int{limbs(72), limbs(72), limbs(72)}, []api.Int{limbs(72)}, limbs(72))
	ones := func(count int) []int64 { return slices.Repeat([]int64{1}, count) }
	refusesRhs(t, wide, ones(3), ones(66), api.ErrWide)
	for _, s := range []api.System{cornered(), of("1 / 1 / 1"), wide} {
		for _, off := range offGrid() {
			for i := range 3 {
				prev := ones(3)
				prev[i] = off
				refusesRhs(t, s, prev, ones(66), api.ErrRange)
				refusesRhs(t, s, prev, slices.Repeat([]int64{off}, 66), api.ErrRange)
			}
			for _, i := range []int{0, 1, 5, 63, 64, 65} {
				src := ones(66)
				src[i] = off
				refusesRhs(t, s, ones(3), src, api.ErrRange)
			}
		}
	}
	refusesRhs(t, api.System{}, nil, []int64{most + 1}, api.ErrRange)
	rhsIs(t, api.System{}, nil, []int64{most, -most}, "")
	rhsIs(t, of("1"), []int64{-most}, []int64{most, -most}, "0")
}

// Systems, lists and numbers that may be wrong each for itself, in all ways together: the first error is told.
func TestTheFirstErrorOfRhsIsTold(t *testing.T) {
	d := dice(130)
	met := map[api.Errno]int{}
	all := breaches()
	for range 4000 {
		s, prev, src := cornered(), d.grid(3, 1), d.grid(64+d.below(3), 1)
		want := api.OK
		if d.one(4) {
			s.Rows[d.below(3)].H[d.below(3)].Val = limbs(72)
			s.Rows[d.below(3)].S[d.below(3)].Val = limbs(72)
		}
		if slices.ContainsFunc(meantSides(s, prev, src), func(a api.Int) bool { return len(a.Limbs) > 72 }) {
			want = api.ErrWide
		}
		if d.one(4) {
			prev[d.below(3)], want = offGrid()[d.below(6)], api.ErrRange
		}
		if d.one(4) {
			src[d.below(64)], want = offGrid()[d.below(6)], api.ErrRange
		}
		switch d.below(8) {
		case 0:
			prev, want = append(prev, 0), api.ErrSize
		case 1:
			prev, want = prev[:d.below(3)], api.ErrSize
		case 2:
			src, want = src[:d.below(64)], api.ErrSize
		}
		if d.one(5) {
			all[5+d.below(len(all)-5)](&s)
			want = api.ErrPattern
		}
		met[want]++
		if want != api.OK {
			refusesRhs(t, s, prev, src, want)
		} else {
			rhsIs(t, s, prev, src, list(meantSides(s, prev, src)))
		}
	}
	for _, err := range []api.Errno{api.OK, api.ErrPattern, api.ErrSize, api.ErrRange, api.ErrWide} {
		if met[err] < 100 {
			t.Errorf("error %d: %d times", err, met[err])
		}
	}
}

// Very long lists and texts are refused before anything is done with them.
func TestVeryMuch(t *testing.T) {
	const much = 1000000
	for _, spoil := range []spoiling{
		func(f *api.Flat) { f.Nodes = slices.Repeat([]string{"0"}, much) },
		func(f *api.Flat) { f.Nodes[1] = strings.Repeat("x.", much) },
		func(f *api.Flat) { f.Devs = slices.Repeat(f.Devs, much/100) },
		func(f *api.Flat) { f.Devs[2].Name = strings.Repeat("a", much) },
		func(f *api.Flat) { f.Devs[2].Nodes = make([]int, much) },
		func(f *api.Flat) { f.Devs[0].Wave.Vals = make([]api.Num, much) },
		func(f *api.Flat) { f.Devs[10].Model.G = make([]api.Num, much) },
	} {
		f := base()
		spoil(&f)
		refuses(t, f, rest(), []int{0, 0}, api.ErrFlat)
		refuses(t, f, rest(), make([]int, much), api.ErrFlat)
		refusesSources(t, f, 0, api.ErrFlat)
	}
	refusesRhs(t, of("1"), []int64{0}, append(make([]int64, much), most+1), api.ErrRange)
	rhsIs(t, of("1 S 0:1"), []int64{0}, make([]int64, much), "0")
}
