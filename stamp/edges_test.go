package stamp_test

import (
	"math"
	"slices"
	"strings"
	"testing"

	"shunt/api"
	"shunt/flat"
	"shunt/stamp"
)

// every is a circuit with one device of each kind, and other ones beside them, none of them at the ground but v0. Its
// unknowns: a to d 0 to 3, the branches of v0 4, v1 5, e1 6, h1 7, t1 8, c1 9, l1 10.
func every() api.Flat {
	return hand("0 a b c d",
		"v v0 1 0 dc 9", "r r1 1 2 4", "g g1 1 2 3 4 -2", "v v1 2 3 dc 5", "i i1 3 4 table 1 2", "e e1 1 2 3 4 5", "f f1 4 1 3 -6", "h h1 2 4 3 7", "t t1 1 2 3 4 8",
		"c c1 3 1 3m", "l l1 4 2 5u", "d d1 1 2 dio d 1u 0.7 100m 2 -3", "s s1 1 2 3 4 sw s 1n 2.5 2")
}

func TestTheUnknownsOfEveryKind(t *testing.T) {
	total, branches := flat.Unknowns(every())
	if total != 11 || !slices.Equal(branches, []int{4, -1, -1, 5, -1, 6, -1, 7, 8, 9, 10, -1, -1}) {
		t.Error(total, branches)
	}
}

// What doesn't hang on the setting.
func TestEveryKindInEverySetting(t *testing.T) {
	f := every()
	for name, want := range map[string]string{
		"r1": "A 0 0 1/4, A 0 1 -1/4, A 1 0 -1/4, A 1 1 1/4",
		"g1": "A 0 2 -2, A 0 3 2, A 1 2 2, A 1 3 -2",
		"v1": "A 1 5 1, A 2 5 -1, A 5 1 1, A 5 2 -1, S 5 3 1",
		"i1": "S 2 4 -1, S 3 4 1",
		"e1": "A 0 6 1, A 1 6 -1, A 6 0 1, A 6 1 -1, A 6 2 -5, A 6 3 5",
		"f1": "A 3 5 -6, A 0 5 6",
		"h1": "A 1 7 1, A 3 7 -1, A 7 1 1, A 7 3 -1, A 7 5 -7",
		"t1": "A 0 8 1, A 1 8 -1, A 2 8 -8, A 3 8 8, A 8 0 1, A 8 1 -1, A 8 2 -8, A 8 3 8",
	} {
		for _, s := range settings() {
			for _, seg := range []int{0, 1, -1, 4, math.MaxInt, math.MinInt} {
				ofIs(t, f, place(f, name), s, seg, want)
			}
		}
	}
}

func TestCapacitorsAndInductors(t *testing.T) {
	f := every()
	c, l := place(f, "c1"), place(f, "l1")
	// At rest neither the method nor the step is looked at.
	for _, s := range []api.Setting{rest(), {Mode: api.Op, Method: api.Trap, Step: n(1, 0)}, {Mode: api.Op, Method: 77, Step: n(-10, 99)}} {
		ofIs(t, f, c, s, 0, "A 2 9 1, A 0 9 -1, A 9 9 1")
		ofIs(t, f, l, s, 0, "A 3 10 1, A 1 10 -1, A 10 3 1, A 10 1 -1")
	}
	ofIs(t, f, c, euler("1m"), 9, "A 2 9 1, A 0 9 -1, A 9 9 1, A 9 2 -3, A 9 0 3, H 9 2 -3, H 9 0 3")
	ofIs(t, f, c, trap("1m"), -1, "A 2 9 1, A 0 9 -1, A 9 9 1, A 9 2 -6, A 9 0 6, H 9 2 -6, H 9 0 6, H 9 9 -1")
	ofIs(t, f, l, euler("1m"), 9, "A 3 10 1, A 1 10 -1, A 10 3 1, A 10 1 -1, A 10 10 -1/200, H 10 10 -1/200")
	ofIs(t, f, l, trap("1m"), -1, "A 3 10 1, A 1 10 -1, A 10 3 1, A 10 1 -1, A 10 10 -1/100, H 10 10 -1/100, H 10 3 -1, H 10 1 1")
	// The step is the setting's, not the circuit's, and so is the method.
	f.Step, f.Method = n(7, 3), api.Trap
	ofIs(t, f, c, euler("1m"), 0, "A 2 9 1, A 0 9 -1, A 9 9 1, A 9 2 -3, A 9 0 3, H 9 2 -3, H 9 0 3")
	ofIs(t, f, c, euler("9"), 0, "A 2 9 1, A 0 9 -1, A 9 9 1, A 9 2 -1/3000, A 9 0 1/3000, H 9 2 -1/3000, H 9 0 1/3000")
}

// Each segment of a diode and of a switch, the first one and the last one among them.
func TestSegments(t *testing.T) {
	f := every()
	d, s := place(f, "d1"), place(f, "s1")
	for _, set := range settings() {
		ofIs(t, f, d, set, 0, "A 0 0 1/1000000, A 0 1 -1/1000000, A 1 0 -1/1000000, A 1 1 1/1000000, K 0 0 0, K 1 0 0")
		ofIs(t, f, d, set, 1, "A 0 0 1/10, A 0 1 -1/10, A 1 0 -1/10, A 1 1 1/10, K 0 0 69999300, K 1 0 -69999300")
		ofIs(t, f, d, set, 2, "A 0 0 -3, A 0 1 3, A 1 0 3, A 1 1 -3, K 0 0 -6130000700, K 1 0 6130000700")
		refuses(t, f, d, set, 3, api.ErrSeg)
		ofIs(t, f, s, set, 0, "A 0 0 1/1000000000, A 0 1 -1/1000000000, A 1 0 -1/1000000000, A 1 1 1/1000000000")
		ofIs(t, f, s, set, 1, "A 0 0 2, A 0 1 -2, A 1 0 -2, A 1 1 2")
		refuses(t, f, s, set, 2, api.ErrSeg)
	}
	one := hand("0 a b", "d d1 1 2 m d 5", "d d2 2 1 m d 1 -2 3 0 4 1e-18 9e9")
	ofIs(t, one, 0, rest(), 0, "A 0 0 5, A 0 1 -5, A 1 0 -5, A 1 1 5, K 0 0 0, K 1 0 0")
	ofIs(t, one, 1, rest(), 0, "A 1 1 1, A 1 0 -1, A 0 1 -1, A 0 0 1, K 1 0 0, K 0 0 0")
	// 4000000000 of the first knot, nothing of the second, and of the third 4 less 9000000000 thousand-millionths.
	const own = "999999997750000001/250000000"
	ofIs(t, one, 1, rest(), 3, "A 1 1 9000000000, A 1 0 -9000000000, A 0 1 -9000000000, A 0 0 9000000000, K 1 0 -"+own+", K 0 0 "+own)
	currentIs(t, one, 1, 3, "A 0 1 9000000000, A 0 0 -9000000000, K 0 0 "+own)
}

func TestCurrentsOfEveryKind(t *testing.T) {
	f := every()
	for name, want := range map[string]string{
		"r1": "A 0 0 1/4, A 0 1 -1/4", "g1": "A 0 2 -2, A 0 3 2", "v0": "A 0 4 1", "v1": "A 0 5 1", "e1": "A 0 6 1", "h1": "A 0 7 1", "t1": "A 0 8 1", "c1": "A 0 9 1", "l1": "A 0 10 1",
		"i1": "S 0 4 1", "f1": "A 0 5 -6",
	} {
		for _, seg := range []int{0, 1, -1, 4, math.MaxInt, math.MinInt} {
			currentIs(t, f, place(f, name), seg, want)
		}
	}
	d, s := place(f, "d1"), place(f, "s1")
	currentIs(t, f, d, 0, "A 0 0 1/1000000, A 0 1 -1/1000000, K 0 0 0")
	currentIs(t, f, d, 1, "A 0 0 1/10, A 0 1 -1/10, K 0 0 -69999300")
	currentIs(t, f, d, 2, "A 0 0 -3, A 0 1 3, K 0 0 6130000700")
	currentIs(t, f, s, 0, "A 0 0 1/1000000000, A 0 1 -1/1000000000")
	currentIs(t, f, s, 1, "A 0 0 2, A 0 1 -2")
}

// line is that of a device of the kind between these nodes, of which two are enough for some. A Ref is the place 0.
func line(kind byte, nodes [4]int) string {
	s := string([]byte{kind}) + " k"
	for _, node := range nodes[:ends(kind)] {
		s += " " + string([]byte{byte('0' + node)})
	}
	switch kind {
	case 'v', 'i':
		return s + " dc 1"
	case 'f', 'h':
		return s + " 0 2"
	case 'd':
		return s + " m d 2 3 5"
	case 's':
		return s + " m s 1 2 2"
	}
	return s + " 2"
}

// What has the ground at one of its nodes, or at all of them: its row and its unknown are left out, and nothing else is.
// The unknowns: a 0, b 1, v0's branch 2, k's 3.
func TestNodesThatAreTheGround(t *testing.T) {
	s := trap("1")
	for _, c := range []struct {
		kind          byte
		nodes         [4]int
		want, current string
	}{
		{'r', [4]int{1, 0}, "A 0 0 1/2", "A 0 0 1/2"},
		{'r', [4]int{0, 1}, "A 0 0 1/2", "A 0 0 -1/2"},
		{'r', [4]int{0, 0}, "", ""},
		{'g', [4]int{0, 2, 1, 0}, "A 1 0 -2", "A 0 0 2"},
		{'g', [4]int{1, 0, 0, 2}, "A 0 1 -2", "A 0 1 -2"},
		{'g', [4]int{1, 2, 0, 0}, "", ""},
		{'g', [4]int{0, 0, 1, 2}, "", "A 0 0 2, A 0 1 -2"},
		{'v', [4]int{0, 2}, "A 1 3 -1, A 3 1 -1, S 3 1 1", "A 0 3 1"},
		{'v', [4]int{0, 0}, "S 3 1 1", "A 0 3 1"},
		{'i', [4]int{0, 2}, "S 1 1 1", "S 0 1 1"},
		{'i', [4]int{1, 0}, "S 0 1 -1", "S 0 1 1"},
		{'i', [4]int{0, 0}, "", "S 0 1 1"},
		{'e', [4]int{1, 0, 2, 0}, "A 0 3 1, A 3 0 1, A 3 1 -2", "A 0 3 1"},
		{'e', [4]int{0, 1, 0, 2}, "A 0 3 -1, A 3 0 -1, A 3 1 2", "A 0 3 1"},
		{'e', [4]int{0, 0, 0, 0}, "", "A 0 3 1"},
		{'f', [4]int{0, 2}, "A 1 2 -2", "A 0 2 2"},
		{'f', [4]int{2, 0}, "A 1 2 2", "A 0 2 2"},
		{'f', [4]int{0, 0}, "", "A 0 2 2"},
		{'h', [4]int{0, 2}, "A 1 3 -1, A 3 1 -1, A 3 2 -2", "A 0 3 1"},
		{'h', [4]int{0, 0}, "A 3 2 -2", "A 0 3 1"},
		{'t', [4]int{1, 0, 0, 2}, "A 0 3 1, A 1 3 2, A 3 0 1, A 3 1 2", "A 0 3 1"},
		{'t', [4]int{0, 1, 2, 0}, "A 0 3 -1, A 1 3 -2, A 3 0 -1, A 3 1 -2", "A 0 3 1"},
		{'t', [4]int{0, 0, 0, 0}, "", "A 0 3 1"},
		{'c', [4]int{0, 2}, "A 1 3 -1, A 3 3 1, A 3 1 4, H 3 1 4, H 3 3 -1", "A 0 3 1"},
		{'c', [4]int{0, 0}, "A 3 3 1, H 3 3 -1", "A 0 3 1"},
		{'l', [4]int{0, 2}, "A 1 3 -1, A 3 1 -1, A 3 3 -4, H 3 3 -4, H 3 1 1", "A 0 3 1"},
		{'l', [4]int{0, 0}, "A 3 3 -4, H 3 3 -4", "A 0 3 1"},
		{'d', [4]int{0, 2}, "A 1 1 5, K 1 0 -9000000000", "A 0 1 -5, K 0 0 -9000000000"},
		{'d', [4]int{2, 0}, "A 1 1 5, K 1 0 9000000000", "A 0 1 5, K 0 0 -9000000000"},
		{'d', [4]int{0, 0}, "", "K 0 0 -9000000000"},
		{'s', [4]int{0, 2, 1, 0}, "A 1 1 2", "A 0 1 -2"},
		{'s', [4]int{2, 0, 0, 0}, "A 1 1 2", "A 0 1 2"},
		{'s', [4]int{0, 0, 1, 2}, "", ""},
	} {
		f := hand("0 a b", "v v0 1 2 dc 1", line(c.kind, c.nodes))
		ofIs(t, f, 1, s, 1, c.want)
		currentIs(t, f, 1, 1, c.current)
	}
	f := hand("0 a b", "v v0 1 2 dc 1", "c k 0 2 2", "l m 0 2 2")
	ofIs(t, f, 1, rest(), 0, "A 1 3 -1, A 3 3 1")
	ofIs(t, f, 2, rest(), 0, "A 1 4 -1, A 4 1 -1")
	ofIs(t, f, 1, euler("1"), 0, "A 1 3 -1, A 3 3 1, A 3 1 2, H 3 1 2")
	ofIs(t, f, 2, euler("1"), 0, "A 1 4 -1, A 4 1 -1, A 4 4 -2, H 4 4 -2")
}

// Devices whose nodes are one node: each stamp stands, none is summed up.
func TestNodesThatAreOneNode(t *testing.T) {
	same := [4]int{2, 2, 2, 2}
	for _, c := range []struct {
		kind          byte
		want, current string
	}{
		{'r', "A 1 1 1/2, A 1 1 -1/2, A 1 1 -1/2, A 1 1 1/2", "A 0 1 1/2, A 0 1 -1/2"},
		{'g', "A 1 1 2, A 1 1 -2, A 1 1 -2, A 1 1 2", "A 0 1 2, A 0 1 -2"},
		{'v', "A 1 3 1, A 1 3 -1, A 3 1 1, A 3 1 -1, S 3 1 1", "A 0 3 1"},
		{'i', "S 1 1 -1, S 1 1 1", "S 0 1 1"},
		{'e', "A 1 3 1, A 1 3 -1, A 3 1 1, A 3 1 -1, A 3 1 -2, A 3 1 2", "A 0 3 1"},
		{'f', "A 1 2 2, A 1 2 -2", "A 0 2 2"},
		{'h', "A 1 3 1, A 1 3 -1, A 3 1 1, A 3 1 -1, A 3 2 -2", "A 0 3 1"},
		{'t', "A 1 3 1, A 1 3 -1, A 1 3 -2, A 1 3 2, A 3 1 1, A 3 1 -1, A 3 1 -2, A 3 1 2", "A 0 3 1"},
		{'c', "A 1 3 1, A 1 3 -1, A 3 3 1, A 3 1 -4, A 3 1 4, H 3 1 -4, H 3 1 4, H 3 3 -1", "A 0 3 1"},
		{'l', "A 1 3 1, A 1 3 -1, A 3 1 1, A 3 1 -1, A 3 3 -4, H 3 3 -4, H 3 1 -1, H 3 1 1", "A 0 3 1"},
		{'d', "A 1 1 5, A 1 1 -5, A 1 1 -5, A 1 1 5, K 1 0 9000000000, K 1 0 -9000000000", "A 0 1 5, A 0 1 -5, K 0 0 -9000000000"},
		{'s', "A 1 1 2, A 1 1 -2, A 1 1 -2, A 1 1 2", "A 0 1 2, A 0 1 -2"},
	} {
		f := hand("0 a b", "v v0 1 2 dc 1", line(c.kind, same))
		ofIs(t, f, 1, trap("1"), 1, c.want)
		currentIs(t, f, 1, 1, c.current)
	}
	// One node at two of the four alone.
	f := hand("0 a b", "v v0 1 2 dc 1", "t t1 1 2 1 2 3", "e e1 1 2 2 1 3", "g g1 1 2 1 2 3")
	ofIs(t, f, 1, rest(), 0, "A 0 3 1, A 1 3 -1, A 0 3 -3, A 1 3 3, A 3 0 1, A 3 1 -1, A 3 0 -3, A 3 1 3")
	ofIs(t, f, 2, rest(), 0, "A 0 4 1, A 1 4 -1, A 4 0 1, A 4 1 -1, A 4 1 -3, A 4 0 3")
	ofIs(t, f, 3, rest(), 0, "A 0 0 3, A 0 1 -3, A 1 0 -3, A 1 1 3")
}

// Stamps whose Val is 0 stand, too, and have no sign.
func TestValuesOfNought(t *testing.T) {
	f := hand("0 a b c d", "v v1 1 2 dc 0", "g g1 1 2 3 4 0", "e e1 1 2 3 4 0", "f f1 1 2 0 0", "h h1 1 2 0 0", "t t1 1 2 3 4 0", "d d1 1 2 m d 0 0.7 0", "s s1 1 2 3 4 q s 0 2 0", "i i1 1 2 dc 0")
	for _, set := range settings() {
		ofIs(t, f, 0, set, 0, "A 0 4 1, A 1 4 -1, A 4 0 1, A 4 1 -1, S 4 0 1")
		ofIs(t, f, 1, set, 0, "A 0 2 0, A 0 3 0, A 1 2 0, A 1 3 0")
		ofIs(t, f, 2, set, 0, "A 0 5 1, A 1 5 -1, A 5 0 1, A 5 1 -1, A 5 2 0, A 5 3 0")
		ofIs(t, f, 3, set, 0, "A 0 4 0, A 1 4 0")
		ofIs(t, f, 4, set, 0, "A 0 6 1, A 1 6 -1, A 6 0 1, A 6 1 -1, A 6 4 0")
		ofIs(t, f, 5, set, 0, "A 0 7 1, A 1 7 -1, A 2 7 0, A 3 7 0, A 7 0 1, A 7 1 -1, A 7 2 0, A 7 3 0")
		for seg := range 2 {
			ofIs(t, f, 6, set, seg, "A 0 0 0, A 0 1 0, A 1 0 0, A 1 1 0, K 0 0 0, K 1 0 0")
			ofIs(t, f, 7, set, seg, "A 0 0 0, A 0 1 0, A 1 0 0, A 1 1 0")
		}
		ofIs(t, f, 8, set, 0, "S 0 8 -1, S 1 8 1")
	}
	currentIs(t, f, 1, 0, "A 0 2 0, A 0 3 0")
	currentIs(t, f, 3, 0, "A 0 4 0")
	currentIs(t, f, 6, 1, "A 0 0 0, A 0 1 0, K 0 0 0")
	currentIs(t, f, 7, 0, "A 0 0 0, A 0 1 0")
}

// Places, branches and Refs of devices far behind: the last of as many as may be.
func TestAsManyAsMayBe(t *testing.T) {
	f := laid(count("r# n# 0 1", 1, 31) + " / " + count("v# n1 n2 1", 1, 16) + " / f1 n1 n31 v16 2 / h1 n31 n1 v1 3 / " + count("i# n30 n31 1", 1, 15))
	if total, _ := flat.Unknowns(f); total != 48 || len(f.Devs) != 64 || len(f.Nodes) != 32 {
		t.Fatal(total, len(f.Devs), len(f.Nodes))
	}
	ofIs(t, f, 30, rest(), 0, "A 30 30 1")
	ofIs(t, f, 46, rest(), 0, "A 0 46 1, A 1 46 -1, A 46 0 1, A 46 1 -1, S 46 46 1")
	ofIs(t, f, 47, rest(), 0, "A 0 46 2, A 30 46 -2")
	currentIs(t, f, 47, 0, "A 0 46 2")
	ofIs(t, f, 48, rest(), 0, "A 30 47 1, A 0 47 -1, A 47 30 1, A 47 0 -1, A 47 31 -3")
	ofIs(t, f, 63, rest(), 0, "S 29 63 -1, S 30 63 1")
	currentIs(t, f, 63, 0, "S 0 63 1")
	refuses(t, f, 64, rest(), 0, api.ErrArg)
	refusesCurrent(t, f, 64, 0, api.ErrArg)
}

// f and h lean on the branch of their Ref, which may stand behind them, and needn't be the first.
func TestRefs(t *testing.T) {
	f := laid("f1 a b v2 2 / h1 a b v1 3 / c1 a b 1 / v1 a b 1 / v2 b a 1 / f2 b a v1 4 / h2 b 0 v2 -5")
	ofIs(t, f, 0, rest(), 0, "A 0 5 2, A 1 5 -2")
	ofIs(t, f, 1, rest(), 0, "A 0 2 1, A 1 2 -1, A 2 0 1, A 2 1 -1, A 2 4 -3")
	ofIs(t, f, 5, rest(), 0, "A 1 4 4, A 0 4 -4")
	ofIs(t, f, 6, rest(), 0, "A 1 6 1, A 6 1 1, A 6 5 5")
	currentIs(t, f, 0, 0, "A 0 5 2")
	currentIs(t, f, 5, 0, "A 0 4 4")
}

// Waves have no say, nor have names: a device's Kind has.
func TestWavesAndNamesHaveNoSay(t *testing.T) {
	for _, wave := range []string{"dc 7", "pulse 0 5 1 2 1 1 8", "pwl 0 1 2 -3", "table 1 2 3"} {
		f := hand("0 r1 v1", "v i1 1 2 "+wave, "i v1 2 1 "+wave)
		ofIs(t, f, 0, rest(), 0, "A 0 2 1, A 1 2 -1, A 2 0 1, A 2 1 -1, S 2 0 1")
		ofIs(t, f, 1, trap("1"), 0, "S 1 1 -1, S 0 1 1")
	}
	f := laid(".subckt s p q / r1 p m 3 / c1 m q 1 / .ends / r1 a 0 1 / x1 a b s")
	ofIs(t, f, place(f, "x1.r1"), rest(), 0, "A 0 0 1/3, A 0 1 -1/3, A 1 0 -1/3, A 1 1 1/3")
	ofIs(t, f, place(f, "x1.c1"), rest(), 0, "A 1 3 1, A 2 3 -1, A 3 3 1")
}

func TestRightSettings(t *testing.T) {
	for _, s := range append(settings(), rightSettings()...) {
		if err := stamp.Check(s); err != api.OK {
			t.Errorf("%v: error %d", s, err)
		}
		if _, err := stamp.Of(every(), 1, s, 0); err != api.OK {
			t.Errorf("Of, %v: error %d", s, err)
		}
	}
}

// rightSettings are the edges of those that are right.
func rightSettings() []api.Setting {
	l := []api.Setting{{Mode: api.Op}, {Mode: api.Op, Method: -1}, {Mode: api.Op, Method: 3, Step: n(-1, 0)}, {Mode: api.Op, Step: n(10, 99)}, {Mode: api.Op, Step: n(math.MinInt64, math.MinInt)}}
	for _, text := range strings.Fields("1e-18 999999999e-18 999999999e9 1e9 1 1m 123456789") {
		l = append(l, euler(text), trap(text))
	}
	return l
}
