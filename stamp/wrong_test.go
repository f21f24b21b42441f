package stamp_test

import (
	"math"
	"slices"
	"strconv"
	"strings"
	"testing"

	"shunt/api"
	"shunt/flat"
	"shunt/stamp"
)

// base is a right flat circuit with a device of every kind, the diode at the place 10 and the switch at 11.
func base() api.Flat {
	return hand("0 a b c", "v v1 1 0 dc 1", "r r1 1 2 1", "c c1 2 0 1", "l l1 2 3 1", "i i1 3 0 pwl 0 1 2 3", "e e1 1 2 3 0 1", "g g1 1 2 3 0 1", "f f1 1 0 0 1", "h h1 2 3 0 1",
		"t t1 1 2 3 0 1", "d d1 1 2 m d 1 2 3", "s s1 1 2 3 0 q s 1 2 3")
}

// full is the base with as many unknowns as may be.
func full() api.Flat {
	f := base()
	for k := range 39 {
		f.Devs = append(f.Devs, dev("c big"+strconv.Itoa(k)+" 1 0 1"))
	}
	return f
}

func TestTheBaseIsRight(t *testing.T) {
	for _, f := range []api.Flat{base(), full()} {
		for k := range f.Devs {
			for _, s := range settings() {
				if l, err := stamp.Of(f, k, s, 0); err != api.OK || len(l) == 0 {
					t.Error(k, s, text(l), err)
				}
			}
			if l, err := stamp.Current(f, k, 0); err != api.OK || len(l) == 0 {
				t.Error(k, text(l), err)
			}
		}
	}
}

// A spoiling makes a flat circuit one that isn't right.
type spoiling func(f *api.Flat)

func wholeSpoilings() []spoiling {
	return []spoiling{
		func(f *api.Flat) { *f = api.Flat{} },
		func(f *api.Flat) { f.Step = api.Num{} },
		func(f *api.Flat) { f.Step = n(-1, 0) },
		func(f *api.Flat) { f.Step = n(10, 0) },
		func(f *api.Flat) { f.Method = 0 },
		func(f *api.Flat) { f.Method = 3 },
		func(f *api.Flat) { f.Nodes = nil },
		func(f *api.Flat) { f.Nodes = f.Nodes[1:] },
		func(f *api.Flat) { f.Nodes = f.Nodes[:3] },
		func(f *api.Flat) { f.Nodes[0] = "00" },
		func(f *api.Flat) { f.Nodes[2] = f.Nodes[1] },
		func(f *api.Flat) { f.Nodes[2] = "" },
		func(f *api.Flat) { f.Nodes[2] = strings.Repeat("x.", 9) + "a" },
		func(f *api.Flat) { f.Nodes, f.Devs = nil, nil },
		func(f *api.Flat) {
			for k := len(f.Nodes); k < 33; k++ {
				f.Nodes = append(f.Nodes, "m"+strconv.Itoa(k))
			}
		},
		func(f *api.Flat) {
			for k := len(f.Devs); k < 65; k++ {
				f.Devs = append(f.Devs, dev("r m"+strconv.Itoa(k)+" 0 0 1"))
			}
		},
		func(f *api.Flat) { f.Devs = append(f.Devs, api.Dev{}) },
		func(f *api.Flat) { f.Devs = append(f.Devs, f.Devs[1]) },
	}
}

// devSpoilings are those of each device.
func devSpoilings() []spoiling {
	var l []spoiling
	add := func(kinds string, do func(d *api.Dev)) {
		for i, d := range base().Devs {
			if strings.IndexByte(kinds, d.Kind) >= 0 {
				l = append(l, func(f *api.Flat) { do(&f.Devs[i]) })
			}
		}
	}
	for _, kind := range []byte{0, 'x', 'R', 255} {
		add(allKinds, func(d *api.Dev) { d.Kind = kind })
	}
	for _, node := range []int{-1, 4, math.MaxInt, math.MinInt} {
		for at := range 4 {
			add(allKinds, func(d *api.Dev) { d.Nodes[min(at, len(d.Nodes)-1)] = node })
		}
	}
	add(allKinds, func(d *api.Dev) { d.Name = "R1" })
	add(allKinds, func(d *api.Dev) { d.Nodes = nil })
	add(allKinds, func(d *api.Dev) { d.Nodes = d.Nodes[1:] })
	add(allKinds, func(d *api.Dev) { d.Nodes = append(d.Nodes, 0) })
	add("egts", func(d *api.Dev) { d.Nodes = d.Nodes[:2] })
	add("rclvifhd", func(d *api.Dev) { d.Nodes = append(d.Nodes, 0, 0) })
	// A kind with four nodes in the place of one with two.
	add("rclvifhd", func(d *api.Dev) { d.Kind = 'e' })
	add(allKinds, func(d *api.Dev) { d.Value = n(10, 0) })
	add("rcl", func(d *api.Dev) { d.Value = api.Num{} })
	add("vids", func(d *api.Dev) { d.Value = n(1, 0) })
	add("vi", func(d *api.Dev) { d.Wave = api.Wave{} })
	add("rclegfhtds", func(d *api.Dev) { d.Wave = dev("v v 0 0 dc 1").Wave })
	add("ds", func(d *api.Dev) { d.Model = api.Model{} })
	add("ds", func(d *api.Dev) { d.Model.G = nil })
	add("d", func(d *api.Dev) { d.Model.Kind = 's' })
	add("s", func(d *api.Dev) { d.Model.Kind = 'd' })
	add("rclviegfht", func(d *api.Dev) { d.Model.Name = "m" })
	add(allKinds, func(d *api.Dev) { d.Ref = 1 })
	add(allKinds, func(d *api.Dev) { d.Ref = -1 })
	add("fh", func(d *api.Dev) { d.Ref = 12 })
	add("v", func(d *api.Dev) { d.Kind = 'i' })
	return l
}

func spoilings() []spoiling { return slices.Concat(wholeSpoilings(), devSpoilings()) }

// wrongSettings are those that aren't right, for one reason or several.
func wrongSettings() []api.Setting {
	var l []api.Setting
	for _, mode := range []int{0, 3, -1, -2, 255, 257, 258, 1<<32 + 1, 1<<32 + 2, math.MaxInt, math.MinInt} {
		l = append(l, api.Setting{Mode: mode}, api.Setting{Mode: mode, Method: api.Euler, Step: n(1, 0)}, api.Setting{Mode: mode, Method: 9, Step: n(10, 0)})
	}
	for _, method := range []int{0, 3, -1, -2, 257, 258, 1<<32 + 1, math.MaxInt, math.MinInt} {
		l = append(l, api.Setting{Mode: api.Tran, Method: method, Step: n(1, -3)}, api.Setting{Mode: api.Tran, Method: method})
	}
	for _, step := range []api.Num{{}, n(-1, 0), n(-5, -18), n(10, 0), n(100, -3), n(0, 1), n(1, -19), n(1, 10), n(1000000001, 0), n(-999999999, 9), n(math.MaxInt64, 0), n(math.MinInt64, 0), n(1, math.MaxInt), n(1, math.MinInt)} {
		l = append(l, api.Setting{Mode: api.Tran, Method: api.Euler, Step: step}, api.Setting{Mode: api.Tran, Method: api.Trap, Step: step})
	}
	return l
}

// wrongPlaces are places at which no device of f stands.
func wrongPlaces(f api.Flat) []int {
	return []int{-1, len(f.Devs), len(f.Devs) + 1, 64, 1 << 32, math.MaxInt, math.MinInt}
}

// wrongSegs are segments of no model that has so many.
func wrongSegs(count int) []int {
	return []int{-1, count, count + 1, 4, 1 << 32, math.MaxInt, math.MinInt}
}

func TestSettingsThatAreNotRight(t *testing.T) {
	f := base()
	for _, s := range wrongSettings() {
		if err := stamp.Check(s); err != api.ErrSet {
			t.Errorf("%v: error %d", s, err)
		}
		for k := range f.Devs {
			refuses(t, f, k, s, 0, api.ErrSet)
		}
		// Places and segments are told behind it.
		for _, k := range wrongPlaces(f) {
			refuses(t, f, k, s, 0, api.ErrSet)
		}
		for _, seg := range wrongSegs(2) {
			refuses(t, f, 10, s, seg, api.ErrSet)
			refuses(t, f, 11, s, seg, api.ErrSet)
			refuses(t, f, 12, s, seg, api.ErrSet)
		}
		refuses(t, hand("0"), 0, s, 0, api.ErrSet)
	}
}

// Each way in which a flat circuit isn't right, with everything else right, and with everything else wrong: flat's error
// comes first.
func TestFlatsThatAreNotRight(t *testing.T) {
	for i, spoil := range spoilings() {
		for _, f := range []api.Flat{base(), with(full(), "l one_more 1 0 1")} {
			spoil(&f)
			if err := flat.Check(f); err != api.ErrFlat {
				t.Fatalf("spoiling %d: flat's error is %d: %s", i, err, short(f))
			}
			for _, s := range []api.Setting{rest(), trap("1"), {}} {
				for _, k := range []int{0, 10, 11, 99, -1} {
					refuses(t, f, k, s, 0, api.ErrFlat)
					refuses(t, f, k, s, 7, api.ErrFlat)
				}
			}
			for _, k := range []int{0, 10, 11, 99, -1} {
				refusesCurrent(t, f, k, 0, api.ErrFlat)
				refusesCurrent(t, f, k, -1, api.ErrFlat)
			}
		}
	}
}

// All is right but the number of unknowns; whatever else is wrong is told behind it.
func TestTooManyUnknowns(t *testing.T) {
	more := full()
	more.Nodes = append(more.Nodes, "more")
	flats := []api.Flat{more}
	for _, line := range []string{"v k 0 0 dc 1", "e k 0 0 0 0 1", "h k 0 0 0 1", "c k 0 0 1", "l k 0 0 1", "t k 0 0 0 0 1"} {
		flats = append(flats, with(full(), line))
	}
	for _, f := range flats {
		for _, k := range append(wrongPlaces(f), 0, 10, 11) {
			for _, seg := range append(wrongSegs(2), 0, 1) {
				refuses(t, f, k, rest(), seg, api.ErrSize)
				refuses(t, f, k, api.Setting{Mode: 3}, seg, api.ErrSize)
				refusesCurrent(t, f, k, seg, api.ErrSize)
			}
		}
	}
}

func TestPlacesAtWhichNoDeviceStands(t *testing.T) {
	for _, f := range []api.Flat{base(), full(), hand("0"), hand("0 a b"), laid("r1 a 0 1"), laid(".model m d 1 / d1 a 0 m")} {
		for _, k := range wrongPlaces(f) {
			for _, s := range settings() {
				for _, seg := range []int{0, 1, -1, math.MaxInt} {
					refuses(t, f, k, s, seg, api.ErrArg)
					refusesCurrent(t, f, k, seg, api.ErrArg)
				}
			}
		}
	}
	refuses(t, hand("0"), 0, rest(), 0, api.ErrArg)
	refusesCurrent(t, hand("0"), 0, 0, api.ErrArg)
}

// Segments that are none of the model's, of diodes with one segment to four, and of a switch.
func TestSegmentsThatAreNone(t *testing.T) {
	f := hand("0 a b", "d d1 1 2 m d 1", "d d2 1 2 m d 1 2 3", "d d3 1 2 m d 1 2 3 4 5", "d d4 1 2 m d 1 2 3 4 5 6 7", "s s1 1 2 1 2 m s 1 2 3")
	for k, count := range []int{1, 2, 3, 4, 2} {
		for _, s := range settings() {
			for _, seg := range wrongSegs(count) {
				refuses(t, f, k, s, seg, api.ErrSeg)
				refusesCurrent(t, f, k, seg, api.ErrSeg)
			}
			for seg := range count {
				ofIs(t, f, k, s, seg, text(meant(f, k, s, seg)))
				currentIs(t, f, k, seg, text(meantCurrent(f, k, seg)))
			}
		}
	}
}

// A flat circuit with one thing another than it was is refused as layer 9 refuses it, or told as meant; so are settings,
// places and segments, of which any may be wrong, behind it.
func TestTheFirstErrorIsTold(t *testing.T) {
	d := dice(116)
	met := map[api.Errno]int{}
	for range 12000 {
		f := d.flat(0)
		if d.one(3) {
			d.change(&f)
		}
		k, s, seg := d.below(len(f.Devs)), d.setting(), d.below(3)
		if d.one(4) {
			wrong := wrongSettings()
			s = wrong[d.below(len(wrong))]
		}
		if d.one(4) {
			wrong := wrongPlaces(f)
			k = wrong[d.below(len(wrong))]
		}
		want, other := firstErrors(f, k, s, seg)
		met[want]++
		met[1000+other]++
		if want != api.OK {
			refuses(t, f, k, s, seg, want)
		} else {
			ofIs(t, f, k, s, seg, text(meant(f, k, s, seg)))
		}
		if other != api.OK {
			refusesCurrent(t, f, k, seg, other)
		} else {
			currentIs(t, f, k, seg, text(meantCurrent(f, k, seg)))
		}
	}
	for _, err := range []api.Errno{api.OK, api.ErrFlat, api.ErrSize, api.ErrArg, api.ErrSeg} {
		if met[err] < 100 || met[1000+err] < 100 {
			t.Errorf("error %d: %d and %d times", err, met[err], met[1000+err])
		}
	}
	if met[api.ErrSet] < 1000 || met[1000+api.ErrSet] > 0 {
		t.Error(met)
	}
}

// firstErrors are those that the chapter names first, of Of and of Current.
func firstErrors(f api.Flat, k int, s api.Setting, seg int) (api.Errno, api.Errno) {
	if err := flat.Check(f); err != api.OK {
		return err, err
	}
	current := api.OK
	switch {
	case k < 0 || k >= len(f.Devs):
		current = api.ErrArg
	case len(f.Devs[k].Model.G) > 0 && seg >= len(f.Devs[k].Model.G):
		current = api.ErrSeg
	}
	if slices.Contains(wrongSettings(), s) {
		return api.ErrSet, current
	}
	return current, current
}

// change does one thing to f, which may be right still.
func (d *dice) change(f *api.Flat) {
	x := &f.Devs[d.below(len(f.Devs))]
	switch d.below(9) {
	case 0:
		x.Kind = (allKinds + "xq\x00")[d.below(15)]
	case 1:
		x.Nodes = append(x.Nodes, 0)
	case 2:
		x.Nodes = x.Nodes[1:]
	case 3:
		x.Nodes[d.below(len(x.Nodes))] = d.below(40) - 4
	case 4:
		x.Ref = d.below(len(f.Devs)+2) - 1
	case 5:
		x.Value = n(int64(d.below(11)), 0)
	case 6:
		f.Method = d.below(4)
	default:
		for k := range 48 {
			f.Devs = append(f.Devs, dev("clv"[d.below(3):][:1]+" more"+strconv.Itoa(k)+" 0 0 1"))
		}
	}
}

// Very long lists and texts are refused before anything is done with them.
func TestVeryMuch(t *testing.T) {
	const much = 1000000
	for _, spoil := range []spoiling{
		func(f *api.Flat) { f.Nodes = slices.Repeat([]string{"0"}, much) },
		func(f *api.Flat) { f.Nodes[1] = strings.Repeat("x.", much) },
		func(f *api.Flat) { f.Devs = slices.Repeat(f.Devs, much/100) },
		func(f *api.Flat) { f.Devs[2].Name = strings.Repeat("a", much) },
		func(f *api.Flat) { f.Devs[2].Nodes = make([]int, much) },
		func(f *api.Flat) { f.Devs[0].Wave.Vals = make([]api.Num, much) },
		func(f *api.Flat) { f.Devs[10].Model.G = make([]api.Num, much) },
	} {
		f := base()
		spoil(&f)
		for _, k := range []int{0, 2, 10, much} {
			refuses(t, f, k, rest(), 0, api.ErrFlat)
			refusesCurrent(t, f, k, 0, api.ErrFlat)
		}
	}
}
