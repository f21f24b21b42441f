package system_test

import (
	"slices"
	"strings"
	"testing"

	"shunt/api"
	"shunt/flat"
	"shunt/limb"
	"shunt/system"
	"shunt/wave"
)

// right fails unless layer 9 says that f is right.
func right(t *testing.T, f api.Flat) {
	t.Helper()
	if err := flat.Check(f); err != api.OK {
		t.Fatalf("%v: error %d", f, err)
	}
}

// enough fails unless each kind of device was met as often as it is to be.
func enough(t *testing.T, met map[byte]int, least int) {
	t.Helper()
	for _, kind := range []byte(allKinds) {
		if met[kind] < least {
			t.Errorf("%c was met only %d times", kind, met[kind])
		}
	}
}

// circuits goes through systems of circuits with devices of all kinds, in all settings and segments.
func circuits(t *testing.T, seed uint64, times int, do func(d *dice, f api.Flat, s api.Setting, segs []int, got api.System)) {
	t.Helper()
	d := dice(seed)
	met := map[byte]int{}
	for range times {
		f := d.flat()
		right(t, f)
		s, segs := d.setting(), d.segments(f)
		for _, x := range f.Devs {
			met[x.Kind]++
		}
		got, err := system.Build(f, s, segs)
		if err != api.OK {
			t.Fatalf("%s: Build %v, %v: error %d", short(f), s, segs, err)
		}
		do(&d, f, s, segs, got)
		if t.Failed() {
			t.FailNow()
		}
	}
	enough(t, met, times/10)
}

// P12.1: Build sums up the stamps, place by place.
func TestSystemsAreTheSumsOfStamps(t *testing.T) {
	empty, fractions, h, k := 0, 0, 0, 0
	circuits(t, 121, 2500, func(d *dice, f api.Flat, s api.Setting, segs []int, got api.System) {
		if want := text(meant(f, s, segs)); text(got) != want {
			t.Errorf("%s: Build %v, %v: %s, not %s", short(f), s, segs, text(got), want)
		}
		for _, row := range got.Rows {
			empty += min(1, len(row.A)+len(row.H)+len(row.S)) ^ 1
			fractions += min(1, len(row.Mult.Limbs)-1)
			h += len(row.H)
			k += len(row.K.Limbs)
		}
	})
	if empty < 500 || fractions < 500 || h < 1000 || k < 500 {
		t.Error(empty, fractions, h, k)
	}
}

// P12.2: what Build tells is right, and no number above 1 divides all of a row.
func TestSystemsAreRightAndLeast(t *testing.T) {
	circuits(t, 122, 2500, func(d *dice, f api.Flat, s api.Setting, segs []int, got api.System) {
		checks(t, got, api.OK)
		total, _ := flat.Unknowns(f)
		if len(got.Rows) != total {
			t.Errorf("%s: %d rows", short(f), len(got.Rows))
		}
		for i, row := range got.Rows {
			common, _ := limb.Gcd(row.Mult, row.K)
			for _, c := range slices.Concat(row.A, row.H, row.S) {
				common, _ = limb.Gcd(common, c.Val)
			}
			if told(common) != "1" {
				t.Errorf("%s: Build %v, %v: %s divides the row %d: %s", short(f), s, segs, told(common), i, rowText(row))
			}
		}
	})
}

// sums are those of two lists, place by place.
func sums(a, b []int64) []int64 {
	var l []int64
	for i := range a {
		l = append(l, a[i]+b[i])
	}
	return l
}

// straight fails unless Rhs less Rhs of noughts adds up.
func straight(t *testing.T, d *dice, s api.System, devs int) {
	t.Helper()
	prevA, prevB := d.grid(len(s.Rows), 2), d.grid(len(s.Rows), 2)
	srcA, srcB := d.grid(devs, 2), d.grid(devs, 2)
	none, err0 := system.Rhs(s, make([]int64, len(s.Rows)), make([]int64, devs))
	a, err1 := system.Rhs(s, prevA, srcA)
	b, err2 := system.Rhs(s, prevB, srcB)
	both, err3 := system.Rhs(s, sums(prevA, prevB), sums(srcA, srcB))
	if err0 != api.OK || err1 != api.OK || err2 != api.OK || err3 != api.OK || len(both) != len(s.Rows) {
		t.Fatalf("%s: errors %d, %d, %d and %d", short(text(s)), err0, err1, err2, err3)
	}
	for i := range both {
		if left, other := plus(both[i], none[i]), plus(a[i], b[i]); told(left) != told(other) {
			t.Fatalf("%s: row %d: %s of the sums, %s and %s, and %s of noughts", short(text(s)), i, told(both[i]), told(a[i]), told(b[i]), told(none[i]))
		}
		if told(none[i]) != told(s.Rows[i].K) {
			t.Fatalf("%s: row %d: %s of noughts", short(text(s)), i, told(none[i]))
		}
	}
}

// P12.3: straight, of what Build tells and of systems made by hand.
func TestRightSidesAddUp(t *testing.T) {
	circuits(t, 123, 1500, func(d *dice, f api.Flat, s api.Setting, segs []int, got api.System) {
		straight(t, d, got, len(f.Devs))
	})
	d := dice(1230)
	for range 1500 {
		straight(t, &d, d.system(60), 9)
	}
}

// Rhs of what Build tells, and of systems made by hand, is the sum that the chapter names.
func TestRightSidesAreTheSums(t *testing.T) {
	circuits(t, 124, 700, func(d *dice, f api.Flat, s api.Setting, segs []int, got api.System) {
		prev, src := d.grid(len(got.Rows), 1), d.grid(len(f.Devs), 1)
		rhsIs(t, got, prev, src, list(meantSides(got, prev, src)))
	})
	d := dice(1240)
	for range 1500 {
		s := d.system(65)
		prev, src := d.grid(len(s.Rows), 1), d.grid(8+d.below(3), 1)
		rhsIs(t, s, prev, src, list(meantSides(s, prev, src)))
	}
}

func meantSides(s api.System, prev, src []int64) []api.Int {
	var l []api.Int
	for _, row := range s.Rows {
		l = append(l, meantSide(row, prev, src))
	}
	return l
}

// near is a right system whose rows are long, and of which much takes much else away where neighbours say the same.
func (d *dice) near() api.System {
	var s api.System
	count := 2 * (1 + d.below(3))
	for range count {
		row := api.Row{Mult: limb.Of(1), K: d.any(72)}
		for col := 0; col < count; col += 2 {
			val := d.just(70 + d.below(3))
			row.H = append(row.H, api.Cell{Col: col, Val: val}, api.Cell{Col: col + 1, Val: minus(val)})
			if d.one(20) {
				row.H[col+1].Val = d.long(72)
			}
		}
		s.Rows = append(s.Rows, row)
	}
	return s
}

// pairs are so many numbers on the grid, each twice, or with one next to it.
func (d *dice) pairs(count int) []int64 {
	var l []int64
	for _, x := range d.grid(count/2, 2) {
		l = append(l, x, x+int64(d.below(3)/2))
	}
	return l
}

// ErrWide is told just where a number of the answer is too long, however long it is on the way.
func TestWideJustWhereTheAnswerIs(t *testing.T) {
	d := dice(125)
	wide, way := 0, 0
	for range 2000 {
		s := d.near()
		prev := d.pairs(len(s.Rows))
		want := meantSides(s, prev, nil)
		if slices.ContainsFunc(want, func(a api.Int) bool { return len(a.Limbs) > 72 }) {
			refusesRhs(t, s, prev, nil, api.ErrWide)
			wide++
		} else {
			rhsIs(t, s, prev, nil, list(want))
			for i, row := range s.Rows {
				if first := meantSide(api.Row{H: row.H[:1]}, prev, nil); len(first.Limbs) > 72 && len(want[i].Limbs) <= 72 {
					way++
				}
			}
		}
		if t.Failed() {
			t.FailNow()
		}
	}
	if wide < 200 || way < 1000 {
		t.Error(wide, way)
	}
}

// loose are the places of devices of kinds without a branch that are no f and no bent one.
func loose(f api.Flat) []int {
	var l []int
	for k, x := range f.Devs {
		if strings.IndexByte("rgi", x.Kind) >= 0 {
			l = append(l, k)
		}
	}
	return l
}

// named is a system in which one place of devices stands for another, and the other way round.
func named(s api.System, one, two int) api.System {
	out := api.System{Rows: slices.Clone(s.Rows)}
	for i, row := range s.Rows {
		cells := slices.Clone(row.S)
		for k, c := range cells {
			switch c.Col {
			case one:
				cells[k].Col = two
			case two:
				cells[k].Col = one
			}
		}
		slices.SortFunc(cells, func(a, b api.Cell) int { return a.Col - b.Col })
		out.Rows[i].S = cells
	}
	return out
}

// P12.4: two devices without a branch, no f and no bent ones, changed about: all but S stays, and S goes with its sources.
func TestDevicesChangedAbout(t *testing.T) {
	times, moved := 0, 0
	circuits(t, 126, 3000, func(d *dice, f api.Flat, s api.Setting, segs []int, got api.System) {
		places := loose(f)
		if len(places) < 2 {
			return
		}
		one, two := places[d.below(len(places))], places[d.below(len(places))]
		f.Devs[one], f.Devs[two] = f.Devs[two], f.Devs[one]
		right(t, f)
		other, err := system.Build(f, s, segs)
		if err != api.OK || len(other.Rows) != len(got.Rows) {
			t.Fatalf("%s: error %d", short(f), err)
		}
		for i, row := range got.Rows {
			changed := other.Rows[i]
			row.S, changed.S = nil, nil
			if rowText(row) != rowText(changed) {
				t.Errorf("%s: row %d: %s, and %s with %d and %d changed about", short(f), i, rowText(row), rowText(changed), one, two)
			}
		}
		if want := named(got, one, two); text(other) != text(want) {
			t.Errorf("%s: %s, and %s with %d and %d changed about", short(f), text(got), text(other), one, two)
		}
		times++
		if text(other) != text(got) {
			moved++
		}
	})
	if times < 1000 || moved < 100 {
		t.Error(times, moved)
	}
}

// Sources tells of each source what layer 4 tells of its wave, and 0 of all others.
func TestSourcesAreThoseOfTheWaves(t *testing.T) {
	d := dice(127)
	off := 0
	for range 4000 {
		f := d.flat()
		step := []int{0, 1, d.below(40), api.MaxStep - d.below(40), api.MaxStep + d.below(2), -d.below(2)}[d.below(6)]
		want := make([]int64, len(f.Devs))
		refused := api.OK
		for k, x := range f.Devs {
			if x.Kind != 'v' && x.Kind != 'i' {
				continue
			}
			v, err := wave.At(x.Wave, step)
			want[k] = v
			if err != api.OK {
				refused = err
			}
		}
		if refused != api.OK {
			off++
			refusesSources(t, f, step, refused)
		} else {
			sourcesAre(t, f, step, want...)
		}
	}
	if off < 500 || off > 3500 {
		t.Error(off)
	}
}

// Bent is what the kinds say, and as many segments as that are asked for.
func TestBentIsWhatSegmentsAreFor(t *testing.T) {
	circuits(t, 128, 1000, func(d *dice, f api.Flat, s api.Setting, segs []int, got api.System) {
		places := system.Bent(f)
		if len(places) != len(segs) || !slices.IsSorted(places) {
			t.Fatal(places, segs)
		}
		for k, x := range f.Devs {
			if bent := len(x.Model.G) > 0; bent != slices.Contains(places, k) {
				t.Fatalf("%s: Bent is %v", short(f), places)
			}
		}
		refuses(t, f, s, append(slices.Clone(segs), 0), api.ErrSeg)
		if len(segs) > 0 {
			refuses(t, f, s, segs[1:], api.ErrSeg)
		}
	})
}
