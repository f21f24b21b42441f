package system_test

import (
	"fmt"
	"math"
	"slices"
	"strconv"
	"strings"
	"testing"

	"shunt/api"
	"shunt/flat"
	"shunt/system"
)

// every is a circuit with devices of all kinds. Its unknowns: a to d 0 to 3, the branches of v0 4, v1 5, e1 6, h1 7, t1 8,
// c1 9, l1 10. Its sources: v0 0, v1 3, i1 4.
func every() api.Flat {
	return hand("0 a b c d",
		"v v0 1 0 dc 9", "r r1 1 2 4", "g g1 1 2 3 4 -2", "v v1 2 3 dc 5", "i i1 3 4 table 1 2", "e e1 1 2 3 4 5", "f f1 4 1 3 -6", "h h1 2 4 3 7", "t t1 1 2 3 4 8",
		"c c1 3 1 3m", "l l1 4 2 5u", "d d1 1 2 dio d 1u 0.7 100m 2 -3", "s s1 1 2 3 4 sw s 1n 2.5 2")
}

// nodeRows are those of every's nodes c and d, and branchRows those of its branches but of c1 and l1.
const (
	nodeRows   = "1 A 5:-1 8:-8 9:1 S 4:-1 / 1 A 5:-6 7:-1 8:8 10:1 S 4:1"
	branchRows = "1 A 0:1 S 0:1 / 1 A 1:1 2:-1 S 3:1 / 1 A 0:1 1:-1 2:-5 3:5 / 1 A 1:1 3:-1 5:-7 / 1 A 0:1 1:-1 2:-8 3:8"
)

// Every kind of device, in both modes, by both methods, in several segments, summed up by hand.
func TestEveryKind(t *testing.T) {
	for _, bent := range []struct {
		segs []int
		rows string
	}{
		{[]int{1, 1}, "20 A 0:47 1:-47 2:-40 3:40 4:20 5:120 6:20 8:20 9:-20 K 1399986000 / 20 A 0:-47 1:47 2:40 3:-40 5:20 6:-20 7:20 8:-20 10:-20 K -1399986000"},
		{[]int{2, 1}, "4 A 0:-3 1:3 2:-8 3:8 4:4 5:24 6:4 8:4 9:-4 K -24520002800 / 4 A 0:3 1:-3 2:8 3:-8 5:4 6:-4 7:4 8:-4 10:-4 K 24520002800"},
		{[]int{0, 0}, "1000000000 A 0:250001001 1:-250001001 2:-2000000000 3:2000000000 4:1000000000 5:6000000000 6:1000000000 8:1000000000 9:-1000000000" +
			" / 1000000000 A 0:-250001001 1:250001001 2:2000000000 3:-2000000000 5:1000000000 6:-1000000000 7:1000000000 8:-1000000000 10:-1000000000"},
	} {
		for _, set := range []struct {
			s    api.Setting
			rows string
		}{
			{rest(), "1 A 9:1 / 1 A 1:-1 3:1"},
			{api.Setting{Mode: api.Op, Method: api.Trap, Step: n(1, -3)}, "1 A 9:1 / 1 A 1:-1 3:1"},
			{euler("1m"), "1 A 0:3 2:-3 9:1 H 0:3 2:-3 / 200 A 1:-200 3:200 10:-1 H 10:-1"},
			{trap("1m"), "1 A 0:6 2:-6 9:1 H 0:6 2:-6 9:-1 / 100 A 1:-100 3:100 10:-1 H 1:100 3:-100 10:-1"},
			{euler("9"), "3000 A 0:1 2:-1 9:3000 H 0:1 2:-1 / 1800000 A 1:-1800000 3:1800000 10:-1 H 10:-1"},
		} {
			buildIs(t, every(), set.s, bent.segs, strings.Join([]string{bent.rows, nodeRows, branchRows, set.rows}, " / "))
		}
	}
}

// The setting's method and step count, not the circuit's.
func TestTheSettingCounts(t *testing.T) {
	f := laid("c1 a 0 2 / .step 7 / .method trap")
	buildIs(t, f, euler("1"), nil, "1 A 1:1 / 1 A 0:-2 1:1 H 0:-2")
	buildIs(t, f, trap("8"), nil, "1 A 1:1 / 2 A 0:-1 1:2 H 0:-1 1:-2")
	buildIs(t, f, rest(), nil, "1 A 1:1 / 1 A 1:1")
}

// Fractions that sum up to 0 are left out, and have no say in Mult.
func TestSumsOfNought(t *testing.T) {
	for _, c := range []struct {
		f    api.Flat
		s    api.Setting
		segs []int
		want string
	}{
		{laid("r1 a b 3 / r2 a b -3 / r3 a 0 2"), rest(), nil, "2 A 0:1 / 1"},
		{laid("r1 a b 3 / r2 b 0 -3"), rest(), nil, "3 A 0:1 1:-1 / 3 A 0:-1"},
		{laid("r1 a 0 3 / r2 a 0 6 / r3 a 0 -2 / r4 a b 7"), rest(), nil, "7 A 0:1 1:-1 / 7 A 0:-1 1:1"},
		{laid("r1 a 0 3 / r2 a 0 6 / r3 a 0 -2"), rest(), nil, "1"},
		{laid("r1 a a 7 / g1 a b a b 0"), rest(), nil, "1 / 1"},
		{laid("g1 a b a b 0.3 / r1 a b -10 / g2 a b b a 0.2"), trap("1"), nil, "1 / 1"},
		{laid("i1 a a 1 / i2 a b 1"), rest(), nil, "1 S 1:-1 / 1 S 1:1"},
		{laid("v1 a a 1"), rest(), nil, "1 / 1 S 0:1"},
		{laid("f1 a 0 v1 0.5 / f2 0 a v1 0.5 / v1 0 0 1"), rest(), nil, "1 / 1 S 2:1"},
		{laid("f1 a 0 v1 0.5 / f2 a 0 v1 -1.5 / v1 a 0 1"), rest(), nil, "1 / 1 A 0:1 S 2:1"},
		{laid("e1 a b a b 1"), rest(), nil, "1 A 2:1 / 1 A 2:-1 / 1"},
		{laid("e1 a b b a -1 / r1 a b 3"), rest(), nil, "3 A 0:1 1:-1 2:3 / 3 A 0:-1 1:1 2:-3 / 1"},
		{laid("e1 a b b 0 -0.5"), rest(), nil, "1 A 2:1 / 1 A 2:-1 / 2 A 0:2 1:-1"},
		{laid("h1 a b v1 0 / v1 a b 1"), rest(), nil, "1 A 2:1 3:1 / 1 A 2:-1 3:-1 / 1 A 0:1 1:-1 / 1 A 0:1 1:-1 S 1:1"},
		{laid("t1 a b a b 1"), rest(), nil, "1 / 1 / 1"},
		{laid("t1 a b b a 0.25"), rest(), nil, "4 A 2:5 / 4 A 2:-5 / 4 A 0:5 1:-5"},
		{laid("c1 a a 3"), euler("7"), nil, "1 / 1 A 1:1"},
		{laid("c1 a a 3"), trap("7"), nil, "1 / 1 A 1:1 H 1:-1"},
		{laid("l1 a a 3"), euler("7"), nil, "1 / 7 A 1:-3 H 1:-3"},
		{laid("l1 a a 3"), trap("7"), nil, "1 / 7 A 1:-6 H 1:-6"},
		{laid("l1 a a 3"), rest(), nil, "1 / 1"},
		{laid(".model m d 1 2 3 / d1 a b m / d2 b a m"), rest(), []int{1, 1}, "1 A 0:6 1:-6 / 1 A 0:-6 1:6"},
		{laid(".model m d 1 2 3 / d1 a b m / d2 b a m"), rest(), []int{1, 0}, "1 A 0:4 1:-4 K 4000000000 / 1 A 0:-4 1:4 K -4000000000"},
		{laid(".model m d 0 1e-10 -1 / .model q d 0 1e-10 1 / d1 a 0 m / d2 a 0 q"), rest(), []int{1, 1}, "1"},
		{laid(".model m d 1 / d1 a 0 m / r1 a 0 -1"), rest(), []int{0}, "1"},
		{laid(".model m s 0 1 0.5 / s1 a 0 b 0 m"), rest(), []int{0}, "1 / 1"},
		{laid(".model m s 0 1 0.5 / s1 a 0 b 0 m"), rest(), []int{1}, "2 A 0:1 / 1"},
	} {
		buildIs(t, c.f, c.s, c.segs, c.want)
	}
}

// What K is counts for Mult, also where nothing else does.
func TestFractionsOfK(t *testing.T) {
	f := laid(".model m d 1 1e-10 0.5 / d1 a 0 m")
	buildIs(t, f, rest(), []int{0}, "1 A 0:1")
	buildIs(t, f, rest(), []int{1}, "20 A 0:10 K -1")
	buildIs(t, laid(".model m d 1 1e-10 2 / d1 a 0 m / r1 a 0 -0.5"), rest(), []int{1}, "10 K 1")
	buildIs(t, laid(".model m d 1 1e-10 2 / d1 0 a m / r1 a 0 3 / i1 a 0 1"), rest(), []int{1}, "30 A 0:70 S 2:-30 K -3")
	buildIs(t, laid(".model m d 1e-18 1e-18 2e-18 / d1 a b m"), euler("1"), []int{1},
		"1000000000000000000000000000 A 0:2000000000 1:-2000000000 K 1 / 1000000000000000000000000000 A 0:-2000000000 1:2000000000 K -1")
}

// Rows without a cell: of nodes at which nothing stands, and of branches of which nothing is left but what is the ground's.
func TestRowsWithoutACell(t *testing.T) {
	for _, s := range settings() {
		buildIs(t, hand("0"), s, nil, "")
		buildIs(t, hand("0", "r r1 0 0 3", "g g1 0 0 0 0 1", "i i1 0 0 dc 1"), s, nil, "")
		buildIs(t, hand("0", "d d1 0 0 m d 1 2 3", "s s1 0 0 0 0 q s 1 2 3"), s, []int{1, 0}, "")
		buildIs(t, hand("0 a b c"), s, nil, "1 / 1 / 1")
		buildIs(t, hand("0 a b c", "r r1 2 0 5"), s, nil, "1 / 5 A 1:1 / 1")
		buildIs(t, hand("0 a", "e e1 0 0 0 0 3", "t t1 0 0 0 0 3", "v v1 0 0 dc 3", "h h1 0 0 2 0.5"), s, nil, "1 / 1 / 1 / 1 S 2:1 / 2 A 3:-1")
		buildIs(t, hand("0 a", "f f1 0 1 1 3", "v v1 0 0 dc 3"), s, nil, "1 A 1:-3 / 1 S 1:1")
	}
	if s, err := system.Build(hand("0"), rest(), nil); err != api.OK || len(s.Rows) != 0 {
		t.Error(s, err)
	}
}

// f and h lean on their own source's branch, wherever it stands; S names places of devices, not of sources.
func TestPlacesAndBranches(t *testing.T) {
	f := laid("r1 a b 1 / f1 a b v2 2 / h1 a 0 v1 3 / c1 a b 1 / v1 a b 1 / i1 0 b 7 / v2 b a 1")
	buildIs(t, f, rest(), nil, "1 A 0:1 1:-1 2:1 3:1 4:1 5:1 / 1 A 0:-1 1:1 3:-1 4:-1 5:-1 S 5:1 / 1 A 0:1 4:-3 / 1 A 3:1 / 1 A 0:1 1:-1 S 4:1 / 1 A 0:-1 1:1 S 6:1")
	// Currents of two sources in one row, and one with an end at the ground.
	f = laid("i1 a b 1 / i2 a b 2 / i3 b a 3 / i4 0 a 4 / r1 a 0 2")
	buildIs(t, f, rest(), nil, "2 A 0:1 S 0:-2 1:-2 2:2 3:2 / 1 S 0:1 1:1 2:-1")
}

// As many nodes, unknowns and devices as may be, sources at the last places among them.
func TestAsManyAsMayBe(t *testing.T) {
	f := laid(count("r# n# 0 1", 1, 31) + " / " + count("v# n1 n2 1", 1, 17) + " / f1 n1 n31 v17 2 / " + count("i# n30 n31 1", 1, 15))
	if total, _ := flat.Unknowns(f); total != 48 || len(f.Devs) != 64 || len(f.Nodes) != 32 {
		t.Fatal(total, len(f.Devs), len(f.Nodes))
	}
	s, err := system.Build(f, rest(), nil)
	if err != api.OK || len(s.Rows) != 48 {
		t.Fatal(len(s.Rows), err)
	}
	checks(t, s, api.OK)
	last := "1 A 30:1 47:-2 S"
	for k := 49; k <= 63; k++ {
		last += " " + strconv.Itoa(k) + ":1"
	}
	if got := rowText(s.Rows[30]); got != last {
		t.Error(got)
	}
	if got := rowText(s.Rows[47]); got != "1 A 0:1 1:-1 S 47:1" {
		t.Error(got)
	}
	if want := text(meant(f, rest(), nil)); text(s) != want {
		t.Error(short(text(s)))
	}
	src, err := system.Sources(f, 0)
	if err != api.OK || len(src) != 64 || src[63] != 1000000000 || src[48] != 0 {
		t.Fatal(src, err)
	}
	side, err := system.Rhs(s, make([]int64, 48), src)
	if err != api.OK || told(side[30]) != "15000000000" || told(side[29]) != "-15000000000" || told(side[47]) != "1000000000" {
		t.Error(list(side), err)
	}
}

// primes are so many, from below 10 to the power 9 down: no two have a divisor in common.
func primes(count int) []int64 {
	var l []int64
	for p := int64(999999999); len(l) < count; p -= 2 {
		prime := true
		for by := int64(3); prime && by*by <= p; by += 2 {
			prime = p%by != 0
		}
		if prime {
			l = append(l, p)
		}
	}
	return l
}

// longest is a circuit with the longest numbers that a row may have: resistors that have no divisor in common, and a diode
// at the greatest and the least of its numbers.
func longest() api.Flat {
	f := hand("0 a b", "d d1 1 2 m d -999999999e9 -999999999e9 999999999e9 0.123456789e-9 -999999999e9 999999999e9 999999999e-18")
	for i, p := range primes(63) {
		f.Devs = append(f.Devs, dev("r r"+strconv.Itoa(i)+" 1 "+strconv.Itoa(2*(i%2))+" 1"))
		f.Devs[i+1].Value = n(p, []int{9, -18, 0}[i%3])
	}
	return f
}

// The longest numbers: none of them is longer than layer 1 allows, so that Build never has ErrWide to say.
func TestTheLongestNumbers(t *testing.T) {
	f := longest()
	for seg := range 4 {
		s, err := system.Build(f, rest(), []int{seg})
		if err != api.OK {
			t.Fatal(seg, err)
		}
		checks(t, s, api.OK)
		if want := text(meant(f, rest(), []int{seg})); text(s) != want {
			t.Errorf("segment %d: %s", seg, short(text(s)))
		}
		row := s.Rows[0]
		if mult, k := len(row.Mult.Limbs), len(row.K.Limbs); mult < 59 || seg == 3 && k < 63 || k > 72 {
			t.Errorf("segment %d: %d and %d limbs", seg, mult, k)
		}
		if _, err := system.Rhs(s, []int64{most, -most}, nil); err != api.OK {
			t.Error(seg, err)
		}
	}
	f = hand("0 a", "c c1 1 0 999999999e9", "l l1 1 0 1e-18")
	buildIs(t, f, trap("1e-18"), nil, "1 A 1:1 2:1 / 1 A 0:-1999999998000000000000000000000000000 1:1 H 0:-1999999998000000000000000000000000000 1:-1 / 1 A 0:1 2:-2 H 0:-1 2:-2")
	buildIs(t, f, euler("999999999e9"), nil, "1 A 1:1 2:1 / 1 A 0:-1 1:1 H 0:-1 / 999999999000000000000000000000000000 A 0:999999999000000000000000000000000000 2:-1 H 2:-1")
}

// Bent looks at the kinds alone, of any flat circuit.
func TestBent(t *testing.T) {
	bentAre(t, api.Flat{})
	bentAre(t, hand("0 a"))
	bentAre(t, every(), 11, 12)
	bentAre(t, laid(".model m d 1 / .model q s 1 2 3 / r1 a 0 1 / d1 a 0 m / s1 a 0 a 0 q / v1 a 0 1 / d2 a 0 m"), 1, 2, 4)
	f := api.Flat{Devs: make([]api.Dev, 300)}
	bentAre(t, f)
	var want []int
	for k := range f.Devs {
		f.Devs[k].Kind = byte(k)
		if k%256 == 'd' || k%256 == 's' {
			want = append(want, k)
		}
	}
	bentAre(t, f, want...)
	// Names, models and nodes have no say.
	bentAre(t, api.Flat{Devs: []api.Dev{{Name: "d1", Model: dev("d d 0 0 m d 1").Model}, {Kind: 's'}, {Kind: 'D', Name: "s"}, {Kind: 'd', Nodes: []int{-1}}}}, 1, 3)
}

func TestSources(t *testing.T) {
	f := hand("0 a b", "r r1 1 2 9", "v v1 1 0 pulse 0 1 2 2 1 1 6", "c c1 1 2 9", "i i1 1 0 pwl 1 0 4 1", "g g1 1 2 1 2 9", "v v2 0 2 table 3 1 -2", "i i2 0 0 dc -5", "f f1 1 2 1 9", "d d1 1 2 m d 1 2 3",
		"s s1 1 2 1 2 q s 1 2 3", "e e1 1 2 1 2 9", "t t1 1 2 1 2 9", "l l1 1 2 9", "h h1 1 2 1 9")
	for step, want := range map[int][4]int64{
		0:          {0, 0, 3000000000, -5000000000},
		2:          {0, 333333333, -2000000000, -5000000000},
		3:          {500000000, 666666667, 3000000000, -5000000000},
		4:          {1000000000, 1000000000, 1000000000, -5000000000},
		1000000000: {1000000000, 1000000000, 1000000000, -5000000000},
	} {
		sourcesAre(t, f, step, 0, want[0], 0, want[1], 0, want[2], want[3], 0, 0, 0, 0, 0, 0, 0)
	}
	sourcesAre(t, hand("0", "v v1 0 0 dc 1e9", "i i1 0 0 dc -1e9"), 0, most, -most)
	sourcesAre(t, hand("0"), 0)
	// Without a source no step is refused.
	for _, step := range []int{-1, api.MaxStep + 1, math.MaxInt, math.MinInt} {
		sourcesAre(t, hand("0 a"), step)
		sourcesAre(t, hand("0 a", "r r1 1 0 1", "c c1 1 0 1"), step, 0, 0)
		refusesSources(t, f, step, api.ErrRange)
	}
	// One source of several that is off the grid, at some of the steps alone.
	f = laid("i1 a 0 1 / v1 a 0 pwl 0 9e8 10 11e8 / v2 a 0 2")
	sourcesAre(t, f, 5, 1000000000, most, 2000000000)
	refusesSources(t, f, 6, api.ErrRange)
	sourcesAre(t, f, 4, 1000000000, 980000000000000000, 2000000000)
	refusesSources(t, laid("r1 a 0 1 / i1 a 0 -11e8"), 0, api.ErrRange)
}

// full is a right system made by hand: as many rows and cells as may be, all as long as may be.
func full() api.System {
	var s api.System
	for range 48 {
		row := api.Row{Mult: limbs(72), K: minus(limbs(72))}
		for col := range 48 {
			row.A = append(row.A, api.Cell{Col: col, Val: limbs(72)})
			row.H = append(row.H, api.Cell{Col: col, Val: minus(limbs(72))})
		}
		for col := range 64 {
			row.S = append(row.S, api.Cell{Col: col, Val: limbs(72)})
		}
		s.Rows = append(s.Rows, row)
	}
	return s
}

// Systems made by hand that are right: the last Cols that are allowed, the longest numbers, nothing at all.
func TestRightSystems(t *testing.T) {
	for _, s := range []api.System{
		{}, {Rows: []api.Row{}}, of("1"), of("7"), of("1 A 0:1"), of("1 H 0:-1"), of("1 S 0:1"), of("1 S 63:-1"), of("1 K -5"),
		of("6 A 0:2 H 0:4 S 1:8 K 10"), // what Build wouldn't tell: it is no least number
		of("1 A 1:1 H 1:1 S 63:1 / 4294967296 A 0:-18446744073709551616"),
		of("1 S 0:1 2:1 62:1 63:1 / 1 A 0:1 2:1 / 1 H 1:1 2:1"),
		full(),
		{Rows: slices.Repeat([]api.Row{{Mult: limbs(72), K: limbs(72), A: []api.Cell{{Col: 47, Val: power(71)}}, H: []api.Cell{{Col: 47, Val: limbs(1)}}, S: []api.Cell{{Col: 63, Val: power(0)}}}}, 48)},
	} {
		checks(t, s, api.OK)
		src := make([]int64, 64)
		if _, err := system.Rhs(s, make([]int64, len(s.Rows)), src); err != api.OK {
			t.Errorf("%s: error %d", short(text(s)), err)
		}
	}
	if s := full(); len(s.Rows[47].S) != 64 || s.Rows[47].A[47].Col != 47 {
		t.Error("full")
	}
}

func TestRightSides(t *testing.T) {
	s := of("5 A 0:9 H 0:2 1:-3 S 0:7 2:-1 K 11 / 1 H 1:4294967296 / 9 A 0:1 1:1 2:1")
	rhsIs(t, s, []int64{0, 0, 0}, []int64{0, 0, 0}, "11 0 0")
	rhsIs(t, s, []int64{1, 0, 0}, []int64{0, 0, 0}, "13 0 0")
	rhsIs(t, s, []int64{1, 1, 99}, []int64{1, 99, 1}, "16 4294967296 0")
	rhsIs(t, s, []int64{-1, -2, 3}, []int64{-4, 5, -6}, "-7 -8589934592 0")
	rhsIs(t, s, []int64{most, -most, most}, []int64{most, -most, -most}, "13000000000000000011 -4294967296000000000000000000 0")
	rhsIs(t, s, []int64{-most, most, most}, []int64{-most, -most, most}, "-12999999999999999989 4294967296000000000000000000 0")
	// Only as many sources are needed as S names, and more may be there.
	rhsIs(t, s, []int64{1, 1, 1}, []int64{1, 1, 1, 5, 6, 7}, "16 4294967296 0")
	rhsIs(t, s, []int64{1, 1, 1}, make([]int64, 1000), "10 4294967296 0")
	refusesRhs(t, s, []int64{1, 1, 1}, []int64{1, 1}, api.ErrSize)
	rhsIs(t, of("1 H 0:5 K 1"), []int64{3}, nil, "16")
	rhsIs(t, of("1 S 1:5"), []int64{3}, []int64{8, -3}, "-15")
	rhsIs(t, of("1 S 63:5"), []int64{3}, append(make([]int64, 63), 2), "10")
	rhsIs(t, api.System{}, nil, nil, "")
	rhsIs(t, api.System{}, []int64{}, []int64{1, 2, 3}, "")
	// A and Mult have no say, nor does the row's own number.
	rhsIs(t, of("3 A 0:7 H 1:1 / 1 A 0:-7 1:3 H 1:1"), []int64{5, 6}, nil, "6 6")
}

// long is a system of one row with these H, S and K.
func long(h, s []api.Int, k api.Int) api.System {
	row := api.Row{Mult: power(0), K: k}
	for col, val := range h {
		row.H = append(row.H, api.Cell{Col: col, Val: val})
	}
	for col, val := range s {
		row.S = append(row.S, api.Cell{Col: col, Val: val})
	}
	out := api.System{Rows: []api.Row{row}}
	for range max(0, len(h)-1) {
		out.Rows = append(out.Rows, api.Row{Mult: power(0)})
	}
	return out
}

// firstIs fails unless the first right side is that one, and the others are 0.
func firstIs(t *testing.T, s api.System, prev, src []int64, want api.Int) {
	t.Helper()
	rhsIs(t, s, prev, src, told(want)+strings.Repeat(" 0", len(s.Rows)-1))
}

// The longest right sides: those that are just as long as may be, and those that are a limb longer, or 1 greater.
func TestLongRightSides(t *testing.T) {
	top, low := limbs(72), minus(limbs(72))
	ints := func(l ...api.Int) []api.Int { return l }
	one := []int64{1, 1}
	firstIs(t, long(ints(top), nil, api.Int{}), one[:1], nil, top)
	firstIs(t, long(ints(top), nil, api.Int{}), []int64{-1}, nil, low)
	firstIs(t, long(ints(api.Int{Limbs: []uint32{1}}), nil, top), []int64{-1}, nil, plus(top, whole("-1")))
	refusesRhs(t, long(ints(power(0)), nil, top), one[:1], nil, api.ErrWide)
	refusesRhs(t, long(ints(power(0)), nil, low), []int64{-1}, nil, api.ErrWide)
	refusesRhs(t, long(ints(top), nil, api.Int{}), []int64{2}, nil, api.ErrWide)
	refusesRhs(t, long(ints(power(71)), nil, api.Int{}), []int64{1 << 32}, nil, api.ErrWide)
	firstIs(t, long(ints(power(70)), nil, api.Int{}), []int64{1 << 32}, nil, power(71))
	firstIs(t, long(ints(power(71)), nil, api.Int{}), []int64{-1<<32 + 1}, nil, api.Int{Neg: true, Limbs: append(make([]uint32, 71), 1<<32-1)})
	// Of two rows the one behind is too long.
	refusesRhs(t, api.System{Rows: []api.Row{{Mult: power(0), K: top}, {Mult: power(0), K: top, H: []api.Cell{{Col: 1, Val: top}}}}}, one, nil, api.ErrWide)
	refusesRhs(t, api.System{Rows: []api.Row{{Mult: power(0), K: top, H: []api.Cell{{Col: 1, Val: top}}}, {Mult: power(0), K: top}}}, one, nil, api.ErrWide)
	// What is too long on the way, and not at the end: products that take one another away, in every order.
	for _, by := range []int64{1, 2, 3, 1 << 32, 1<<32 - 1, most} {
		firstIs(t, long(ints(top, low), nil, api.Int{}), []int64{by, by}, nil, api.Int{})
		firstIs(t, long(ints(low, top), nil, top), []int64{by, by}, nil, top)
		firstIs(t, long(ints(top, top), nil, low), []int64{by, -by}, nil, low)
		firstIs(t, long(ints(top), ints(low), top), []int64{by}, []int64{by}, top)
		firstIs(t, long(ints(low), ints(low), whole("-7")), []int64{by}, []int64{-by}, whole("-7"))
		firstIs(t, long(ints(top, low), nil, low), []int64{by, by - 1}, nil, api.Int{})
		firstIs(t, long(ints(top, low), ints(top, low), api.Int{}), []int64{by, by}, []int64{by - 1, by}, low)
		refusesRhs(t, long(ints(top, low), ints(power(0)), top), []int64{by, by}, one, api.ErrWide)
		refusesRhs(t, long(ints(top, low), ints(power(0)), low), []int64{by, by}, []int64{-1}, api.ErrWide)
	}
}

// As many products as may be, all as long as may be: up and down, and all on one side.
func TestTheMostOfRightSides(t *testing.T) {
	s := full()
	prev, src := make([]int64, 48), make([]int64, 64)
	for _, sign := range []int64{1, -1} {
		for i := range prev {
			prev[i] = -sign * most
		}
		for i := range src {
			src[i] = sign * most
		}
		refusesRhs(t, s, prev, src, api.ErrWide)
		for i := range 56 { // 48 of H and 8 of S up, 56 of S down
			src[8+i] = -sign * most
		}
		rhsIs(t, s, prev, src, strings.Repeat(told(minus(limbs(72)))+" ", 47)+told(minus(limbs(72))))
		for i := range prev { // the other way round
			prev[i] = sign * most
		}
		for i := range src {
			src[i] = sign * most
			if i >= 56 {
				src[i] = -sign * most
			}
		}
		rhsIs(t, s, prev, src, strings.Repeat(told(minus(limbs(72)))+" ", 47)+told(minus(limbs(72))))
	}
}

// Powers of two, of which the sum is one, too, far beyond what may be answered: it isn't taken for a short one.
func TestPowersBeyond(t *testing.T) {
	half := api.Int{Limbs: append(make([]uint32, 71), 1<<31)}
	for terms := 1; terms <= 64; terms *= 2 {
		for by := int64(2); by <= 1<<59; by *= 2 {
			s := long(nil, slices.Repeat([]api.Int{half}, terms), api.Int{})
			refusesRhs(t, s, []int64{0}, slices.Repeat([]int64{by}, terms), api.ErrWide)
			refusesRhs(t, s, []int64{0}, slices.Repeat([]int64{-by}, terms), api.ErrWide)
		}
	}
}

// What Build makes of a circuit is solved by what the circuit does: voltages and currents worked out by hand.
func TestSolutionsFulfil(t *testing.T) {
	for _, c := range []struct {
		f         api.Flat
		s         api.Setting
		segs      []int
		prev, now []int64
	}{
		{laid("v1 a 0 6 / r1 a b 1k / r2 b 0 2k"), rest(), nil, []int64{0, 0, 0}, []int64{6000000000, 4000000000, -2000000}},
		{laid("v1 a 0 5 / r1 a b 1k / c1 b 0 1u"), euler("1m"), nil, []int64{0, 0, 0, 0}, []int64{5000000000, 2500000000, -2500000, 2500000}},
		{laid("v1 a 0 6 / r1 a b 1k / c1 b 0 1u"), trap("2m"), nil, []int64{0, 0, 0, 0}, []int64{6000000000, 3000000000, -3000000, 3000000}},
		{laid("v1 a 0 6 / r1 a b 1 / l1 b 0 1"), euler("1"), nil, []int64{0, 0, 0, 0}, []int64{6000000000, 3000000000, -3000000000, 3000000000}},
		{laid("v1 a 0 6 / r1 a b 1 / l1 b 0 1"), trap("2"), nil, []int64{0, 2000000000, 0, 0}, []int64{6000000000, 2000000000, -4000000000, 4000000000}},
		{laid(".model m d 0 1 1 / i1 0 a 2 / d1 a 0 m"), rest(), []int{1}, []int64{0}, []int64{3000000000}},
		{laid(".model m s 0 1 0.5 / v1 a 0 2 / s1 a b a 0 m / r1 b 0 2"), rest(), []int{1}, []int64{0, 0, 0}, []int64{2000000000, 1000000000, -500000000}},
		{laid("v1 a 0 3 / t1 a 0 b 0 0.5 / r1 b 0 2"), rest(), nil, []int64{0, 0, 0, 0}, []int64{3000000000, 6000000000, -6000000000, 6000000000}},
		{laid("v1 a 0 3 / r1 a 0 1 / h1 b 0 v1 2 / f1 0 c v1 3 / r2 c 0 1 / g1 0 d a 0 2 / r3 d 0 1 / e1 e 0 a 0 4"), rest(), nil, make([]int64, 8),
			[]int64{3000000000, -6000000000, -9000000000, 6000000000, 12000000000, -3000000000, 0, 0}},
	} {
		s, err := system.Build(c.f, c.s, c.segs)
		src, other := system.Sources(c.f, 0)
		if err != api.OK || other != api.OK || len(s.Rows) != len(c.now) {
			t.Fatal(c.f, err, other)
		}
		side, err := system.Rhs(s, c.prev, src)
		if err != api.OK {
			t.Fatal(c.f, err)
		}
		for i, row := range s.Rows {
			if left := meantSide(api.Row{H: row.A}, c.now, nil); told(left) != told(side[i]) {
				t.Errorf("%v: row %d: %s, and %s on the right", short(c.f), i, told(left), told(side[i]))
			}
		}
	}
}

// Nothing hangs on the order in which a map is gone through: the same answer however often it is asked for.
func TestAlwaysTheSame(t *testing.T) {
	for _, f := range []api.Flat{every(), longest()} {
		segs := make([]int, len(system.Bent(f)))
		want := fmt.Sprint(system.Build(f, trap("3"), segs))
		for range 30 {
			if got := fmt.Sprint(system.Build(f, trap("3"), segs)); got != want {
				t.Fatalf("%s, and %s", short(want), short(got))
			}
		}
	}
}
