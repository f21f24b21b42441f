package topo_test

import (
	"slices"
	"strconv"
	"strings"
	"testing"

	"shunt/api"
	"shunt/topo"
)

func TestCircuitsWithoutDevices(t *testing.T) {
	both(t, laid(""), "", "")
	both(t, laid(".subckt s a / r1 a 0 1 / .ends / .model m d 1"), "", "")
	both(t, hand("0"), "", "")
	both(t, hand("0 a"), "a", "")
	both(t, hand("0 b a x1.a 00"), "b a x1.a 00", "")
	f := hand("0")
	f.Devs = []api.Dev{}
	both(t, f, "", "")
	f.Step, f.Method = n(999999999, 9), api.Trap
	both(t, f, "", "")
}

// A node of no device floats, though all others are tied.
func TestNodesOfNoDevice(t *testing.T) {
	both(t, hand("0 a b c", "r r1 1 3 1", "v v1 0 3 dc 1"), "b", "")
	both(t, hand("0 a b", "r r1 0 0 1", "v v1 0 0 dc 1"), "a b", "v1")
}

// kindsTies are the ties of each kind's device, between the nodes a, b, c and d, at rest and in time.
func kindsTies() map[byte][2]string {
	return map[byte][2]string{
		'r': {"ab", "ab"}, 'c': {"", "ab"}, 'l': {"ab", "ab"}, 'v': {"ab", "ab"}, 'i': {"", ""}, 'e': {"ab cd", "ab cd"},
		'g': {"cd", "cd"}, 'f': {"", ""}, 'h': {"ab", "ab"}, 't': {"ab cd", "ab cd"}, 'd': {"ab", "ab"}, 's': {"ab", "ab"},
	}
}

// line is that of a device of the kind between these nodes, of which two are enough for some. A Ref is the place 0.
func line(kind byte, name string, nodes ...int) string {
	s := string([]byte{kind}) + " " + name
	for _, node := range nodes[:ends(kind)] {
		s += " " + strconv.Itoa(node)
	}
	switch kind {
	case 'v', 'i':
		return s + " dc 1"
	case 'f', 'h':
		return s + " 0 1"
	case 'd':
		return s + " m d 1 2 3"
	case 's':
		return s + " m s 1 2 3"
	}
	return s + " 1"
}

// Each kind's ties, seen by those that don't float when one of its nodes is tied to the ground.
func TestTiesOfEveryKind(t *testing.T) {
	const nodes = "abcd"
	for kind, ties := range kindsTies() {
		for i, mode := range modes() {
			alone := hand("0 a b c d", "v v 0 0 dc 1", line(kind, "k", 1, 2, 3, 4))
			tells(t, alone, mode, "a b c d", "v")
			for place, node := range nodes {
				floats := strings.Split(nodes, "")
				for _, tie := range append(strings.Fields(ties[i]), string(node)) {
					if strings.ContainsRune(tie, node) {
						floats = slices.DeleteFunc(floats, func(s string) bool { return strings.Contains(tie, s) })
					}
				}
				tells(t, with(alone, line('r', "r", place+1, 0)), mode, strings.Join(floats, " "), "v")
				tells(t, with(alone, line('r', "r", 0, place+1)), mode, strings.Join(floats, " "), "v")
			}
		}
	}
}

// Each kind's ties to the ground itself, from either end.
func TestTiesToTheGround(t *testing.T) {
	for kind, ties := range kindsTies() {
		for i, mode := range modes() {
			ab, cd := "a", "b"
			if strings.Contains(ties[i], "ab") {
				ab = ""
			}
			if strings.Contains(ties[i], "cd") {
				cd = ""
			}
			f := hand("0 a b", "v v 0 0 dc 1", line(kind, "k", 1, 0, 2, 0))
			tells(t, f, mode, ab+" "+cd, "v")
			f = hand("0 a b", "v v 0 0 dc 1", line(kind, "k", 0, 1, 0, 2))
			tells(t, f, mode, ab+" "+cd, "v")
		}
	}
}

// Two devices beside one another close a loop where both are of kinds that do in that mode.
func TestLoopsOfEveryTwoKinds(t *testing.T) {
	for i, kinds := range []string{"vl", "v"} {
		for _, one := range []byte(allKinds) {
			for _, two := range []byte(allKinds) {
				loops := "v"
				if strings.IndexByte(kinds, one) >= 0 && strings.IndexByte(kinds, two) >= 0 {
					loops += " k2"
				}
				for _, way := range [][4]int{{1, 2, 1, 2}, {2, 1, 1, 2}} {
					f := hand("0 a b", "v v 0 0 dc 1", "r r1 1 0 1", "r r2 2 0 1", line(one, "k1", 1, 2, 1, 2), line(two, "k2", way[:]...))
					tells(t, f, modes()[i], "", loops)
				}
			}
		}
	}
}

func TestOneNodeAtBothEnds(t *testing.T) {
	both(t, laid("v1 0 0 1"), "", "v1")
	both(t, laid("v1 a a 1"), "a", "v1")
	both(t, laid("v1 a 0 1 / v2 a a 1 / v3 0 0 2 / r1 a a 1"), "", "v2 v3")
	both(t, laid("v1 a a 1 / v2 a 0 1 / v3 b b 1 / r1 b a 1"), "", "v1 v3")
	tells(t, laid("l1 a a 1 / l2 0 0 1"), api.Op, "a", "l1 l2")
	tells(t, laid("l1 a a 1 / l2 0 0 1"), api.Tran, "a", "")
	both(t, laid("e1 a a b b 1 / t1 c c d d 1 / h1 f f v1 1 / v1 0 g 1"), "a b c d f", "")
	for _, kind := range []byte("rcieghtdsf") {
		f := hand("0 a b", "v v1 1 0 dc 1", line(kind, "k", 2, 2, 2, 2))
		both(t, f, "b", "")
		f = hand("0 a", "v v1 1 0 dc 1", line(kind, "k", 0, 0, 0, 0))
		both(t, f, "", "")
	}
}

func TestSeveralLoops(t *testing.T) {
	both(t, laid("v1 a 0 1 / v2 0 a 1 / v3 a 0 1 / v4 a 0 2"), "", "v2 v3 v4")
	both(t, laid("v1 a b 1 / v2 b c 1 / v3 c 0 1 / v4 0 a 1"), "", "v4")
	both(t, laid("v1 a b 1 / v2 c d 1 / v3 a c 1 / v4 b d 1 / v5 b c 1 / r1 d 0 1"), "", "v4 v5")
	// Loops apart, one of them among nodes that float.
	both(t, laid("v1 a b 1 / v2 c d 1 / v3 b a 1 / r1 a 0 1 / v4 c e 1 / v5 d e 1"), "c d e", "v3 v5")
	// The last of a loop closes it, whichever that is.
	both(t, laid("v3 c 0 1 / v4 0 a 1 / v2 b c 1 / r1 a b 1 / v1 a b 1"), "", "v1")
	// By inductors too, at rest.
	mixed := laid("l1 a 0 1 / v1 a b 1 / r1 a b 1 / l2 b 0 1 / v2 b 0 1 / l3 c 0 1 / l4 c 0 1 / v3 b a 2")
	tells(t, mixed, api.Op, "", "l2 v2 l4 v3")
	tells(t, mixed, api.Tran, "", "v3")
	tells(t, laid("l1 a 0 1 / v1 a 0 1"), api.Op, "", "v1")
	tells(t, laid("l1 a 0 1 / v1 a 0 1"), api.Tran, "", "")
	// Other devices close none.
	both(t, laid("v1 a 0 1 / e1 a 0 a 0 1 / h1 a 0 v1 1 / t1 a 0 a 0 1 / c1 a 0 1 / r1 a 0 1 / i1 a 0 1 / i2 a 0 1 / e2 a 0 a 0 1"), "", "")
	both(t, laid("v1 a 0 1 / r1 a b 1 / v2 b 0 1 / c1 a b 1 / e1 a b a 0 1 / h1 a b v1 1 / t1 a b a b 1"), "", "")
}

func TestTiesFromCToD(t *testing.T) {
	both(t, laid("g1 a 0 b c 1"), "a b c", "")
	both(t, laid("g1 a 0 b c 1 / r1 c 0 1"), "a", "")
	both(t, laid("g1 a 0 b c 1 / r1 a 0 1"), "b c", "")
	both(t, laid("e1 a 0 b c 1"), "b c", "")
	both(t, laid("e1 a b c 0 1"), "a b", "")
	both(t, laid("t1 a 0 b c 1"), "b c", "")
	both(t, laid("t1 a b c 0 1"), "a b", "")
	// The voltage from C to D chooses a switch's segment, and ties nothing.
	both(t, laid(".model q s 1 2 3 / s1 a 0 b 0 q"), "b", "")
	both(t, laid(".model q s 1 2 3 / s1 a b c 0 q / r1 c 0 1"), "a b", "")
	// f and h lean on a source, to which they tie nothing.
	both(t, laid("v1 a 0 1 / f1 b 0 v1 1 / f2 c a v1 1"), "b c", "")
	both(t, laid("v1 a 0 1 / h1 b c v1 1 / h2 d 0 v1 1"), "b c", "")
	// A to C and B to D are no ties.
	both(t, laid("e1 a b a 0 1"), "", "")
	both(t, laid("e1 a b c d 1 / g1 b d a c 1 / r1 a 0 1"), "", "")
	both(t, laid("e1 a b c d 1 / g1 b d e f 1 / r1 a 0 1"), "c d e f", "")
	// A way through several of them.
	both(t, laid("g1 0 0 d e 1 / t1 0 0 c d 1 / e1 0 0 b c 1 / e2 a b 0 0 1 / h1 e 0 v1 1 / v1 0 0 1"), "", "v1")
	both(t, laid("g1 0 0 d e 1 / t1 0 0 c d 1 / e1 0 0 b c 1 / e2 a b 0 0 1 / f1 e 0 v1 1 / v1 0 0 1"), "d e c b a", "v1")
}

func TestNodesTiedToOneAnother(t *testing.T) {
	both(t, laid("r1 a b 1 / r2 c d 1 / r3 d e 1"), "a b c d e", "")
	both(t, laid("r1 a b 1 / r2 c d 1 / r3 d e 1 / v1 d 0 1"), "a b", "")
	both(t, laid("r1 a b 1 / r2 c d 1 / r3 d e 1 / v1 e b 1"), "a b c d e", "")
	both(t, laid("r1 a b 1 / r2 c d 1 / r3 d e 1 / v1 e b 1 / l1 0 a 1"), "", "")
	// A source of current between two parts ties them not.
	both(t, laid("v1 a 0 1 / r1 a b 1 / i1 b c 1 / r2 c d 1 / i2 d 0 1"), "c d", "")
	// Parts that only capacitors join to the ground.
	parts := laid("v1 a 0 1 / c1 a b 1u / r1 b c 1 / c2 c d 1u / l1 d e 1")
	tells(t, parts, api.Op, "b c d e", "")
	tells(t, parts, api.Tran, "", "")
}

// backwards are the lines from the last one to the first.
func backwards(lines string) string {
	l := strings.Split(lines, " / ")
	slices.Reverse(l)
	return strings.Join(l, " / ")
}

// As many nodes as may be, tied one to the next in either order.
func TestLongWays(t *testing.T) {
	for _, form := range []string{"r# n# n## 1", "r# n## n# 1"} {
		for _, lines := range []string{count(form, 1, 30), backwards(count(form, 1, 30))} {
			f := laid(lines)
			both(t, f, strings.Join(f.Nodes[1:], " "), "")
			if l, _ := topo.Floats(f, api.Op); len(l) != 31 || l[0] != 1 || l[30] != 31 || !slices.IsSorted(l) {
				t.Error(l)
			}
			for _, end := range []string{"n1", "n16", "n31"} {
				both(t, laid(lines+" / r99 "+end+" 0 1"), "", "")
				both(t, laid("i99 "+end+" 0 1 / r99 0 "+end+" 1 / "+lines), "", "")
			}
		}
	}
	// A ring of as many sources as may be, and sources beside one another.
	ring := count("v# n# n## 1", 1, 23)
	both(t, laid(ring+" / r1 n1 0 1"), "", "")
	both(t, laid(ring+" / r1 n1 0 1 / v99 n24 n1 1"), "", "v99")
	f := laid(backwards(ring) + " / v99 n1 n24 1")
	both(t, f, strings.Join(f.Nodes[1:], " "), "v99")
	beside := laid(count("v# a 0 1", 1, 47))
	l, err := topo.Loops(beside, api.Tran)
	if len(l) != 46 || l[0] != 1 || l[45] != 46 || !slices.IsSorted(l) || err != api.OK {
		t.Error(l, err)
	}
	both(t, laid(count("r# a 0 1", 1, 64)), "", "")
	both(t, laid(count("i# a 0 1", 1, 64)), "a", "")
}

// Numbers, names, waves, models, the step and the method have no say.
func TestNumbersHaveNoSay(t *testing.T) {
	both(t, hand("0 r1", "v c1 1 0 dc 1", "v r1 1 0 dc 1", "r v1 1 0 1", "r v2 1 0 1", "i l1 1 0 dc 1"), "", "r1")
	both(t, hand("0 v1 i1", "i v1 1 0 dc 1", "c r1 2 0 1", "r c1 2 0 1"), "v1", "")
	for _, x := range []string{"0", "1", "-1", "1e9", "1e-18"} {
		both(t, laid("v1 a 0 "+x+" / v2 a 0 "+x+" / e1 b 0 c d "+x+" / g1 e 0 f 0 "+x+" / t1 g 0 h 0 "+x+" / h1 i j v1 "+x+" / f1 k 0 v1 "+x), "c d e i j k", "v2")
		models := ".model m d " + x + " 2 " + x + " / .model q s " + x + " 2 " + x
		both(t, laid(models+" / d1 a 0 m / d2 b c m / s1 d 0 e f q"), "b c e f", "")
	}
	both(t, laid("v1 a 0 pulse 0 5 1 2 1 1 8 / v2 0 a pwl 0 0 4 1 / i1 b 0 table 1 2 3 / .step 1m / .method trap"), "b", "v2")
	tells(t, laid("c1 a 0 -1 / l1 b 0 -1 / l2 b 0 -1 / .method trap / .step 1e-18"), api.Op, "a", "l2")
	tells(t, laid("c1 a 0 -1 / l1 b 0 -1 / l2 b 0 -1 / .method trap / .step 1e-18"), api.Tran, "", "")
}

func TestSubcircuits(t *testing.T) {
	f := laid(".subckt s p q / v1 p m 1 / v2 m p 1 / r1 q n 1 / g1 q 0 o 0 1 / .ends / x1 a b s / x2 0 c s")
	both(t, f, "a x1.m b x1.n c x2.n", "x1.v2 x2.v2")
}
