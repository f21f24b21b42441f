package flat_test

import (
	"slices"
	"strings"
	"testing"

	"shunt/api"
	"shunt/flat"
)

func TestCircuitsWithoutDevices(t *testing.T) {
	lays(t, "", hand("0"))
	lays(t, ".end", hand("0"))
	lays(t, behind(div, ".model m d 1"), hand("0"))
	lays(t, ".subckt s a b / .ends / x1 a b s / x2 0 c s", hand("0"))
	lays(t, ".subckt s a / .ends / .subckt q a b / x1 a s / x2 n s / .ends / x1 a b q / x2 0 c q", hand("0"))
	lays(t, ".step 3 / .method trap", api.Flat{Nodes: []string{"0"}, Step: n(3, 0), Method: api.Trap})
	takes(t, hand("0"))
	if count, branches := flat.Unknowns(hand("0")); count != 0 || len(branches) != 0 {
		t.Error(count, branches)
	}
	if count, branches := flat.Unknowns(hand("0 a b")); count != 2 || len(branches) != 0 {
		t.Error(count, branches)
	}
}

// every is a card of each kind but x, and the devices that they are, with their nodes' names in the place of numbers.
func every() (lines, models, devs string) {
	lines = "r1 a b 1k / c1 b 0 -2u / l1 b c 3m / v1 a 0 pulse 0 5 1 2 1 1 8 / i1 c a pwl 0 1 2 -3 / e1 d 0 a b 4 / g1 a d b 0 0 / f1 c 0 v1 -5 / " +
		"h1 e 0 v1 6 / t1 a 0 e b 7 / d1 a f dio / s1 f 0 a e sw / v2 e f table 1 2 3 / i2 a a 8"
	models = ".model dio d 1u 0.7 100m 2 3 / .model sw s 1n 2.5 1"
	devs = "r r1 1 2 1k / c c1 2 0 -2u / l l1 2 3 3m / v v1 1 0 pulse 0 5 1 2 1 1 8 / i i1 3 1 pwl 0 1 2 -3 / e e1 4 0 1 2 4 / g g1 1 4 2 0 0 / f f1 3 0 3 -5 / " +
		"h h1 5 0 3 6 / t t1 1 0 5 2 7 / d d1 1 6 dio d 1u 0.7 100m 2 3 / s s1 6 0 1 5 sw s 1n 2.5 1 / v v2 5 6 table 1 2 3 / i i2 1 1 dc 8"
	return lines, models, devs
}

func TestEveryKindInTheNetlist(t *testing.T) {
	lines, models, devs := every()
	f := hand("0 a b c d e f", strings.Split(devs, " / ")...)
	lays(t, behind(models, lines), f)
	lays(t, behind(lines, models), f)
	f.Step, f.Method = n(25, -5), api.Trap
	lays(t, behind(".step 250u", lines, ".method trap", models), f)
	if count, branches := flat.Unknowns(f); count != 13 || !slices.Equal(branches, []int{-1, 6, 7, 8, -1, 9, -1, -1, 10, 11, -1, -1, 12, -1}) {
		t.Error(count, branches)
	}
}

// The same cards in a subcircuit: its ports are the x's nodes, the others its own; a card ahead moves the places of sources.
func TestEveryKindInASubcircuit(t *testing.T) {
	lines, models, devs := every()
	moved := strings.NewReplacer("f f1 3 0 3", "f f1 3 0 4", "h h1 5 0 3", "h h1 5 0 4").Replace(devs)
	var l []string
	for _, s := range strings.Split(moved, " / ") {
		kind, rest, _ := strings.Cut(s, " ")
		l = append(l, kind+" x7."+rest)
	}
	l = append([]string{"r r1 1 0 9"}, l...)
	lays(t, behind(".subckt all a e", lines, ".ends", models, "r1 p 0 9", "x7 p q all"), hand("0 p x7.b x7.c x7.d q x7.f", l...))
	for i, s := range l[1:] {
		l[i+1] = strings.Replace(s, "x7.", "x8.x7.", 1)
	}
	lays(t, behind(".subckt all a e", lines, ".ends", ".subckt more b a / x7 a b all / .ends", models, "r1 p 0 9", "x8 q p more"),
		hand("0 p x8.x7.b x8.x7.c x8.x7.d q x8.x7.f", l...))
}

func TestXInX(t *testing.T) {
	lays(t, ".subckt one a b / r1 a n 1 / r2 n b 2 / .ends / .subckt two b a / x1 b m one / r1 m a 3 / x2 m a one / .ends / x1 a b one / x9 n a two / r1 b n 4",
		hand("0 a x1.n b n x9.x1.n x9.m x9.x2.n",
			"r x1.r1 1 2 1", "r x1.r2 2 3 2", "r x9.x1.r1 4 5 1", "r x9.x1.r2 5 6 2", "r x9.r1 6 1 3", "r x9.x2.r1 6 7 1", "r x9.x2.r2 7 1 2", "r r1 3 4 4"))
	// A subcircuit that stands behind its x's cards in the text, and one that is gone into by two others.
	lays(t, "x1 a b / x2 b c / .subckt b p / r1 p n 1 / .ends / .subckt c p / x1 p b / x2 0 b / .ends",
		hand("0 a x1.n b x2.x1.n x2.x2.n", "r x1.r1 1 2 1", "r x2.x1.r1 3 4 1", "r x2.x2.r1 0 5 1"))
}

// Nodes are numbered by the devices that have them, not by the x's that name them.
func TestNodesAreNumberedAsTheyAreMet(t *testing.T) {
	lays(t, "r1 c b 1 / r2 a c 1 / r3 0 d 1", hand("0 c b a d", "r r1 1 2 1", "r r2 3 1 1", "r r3 0 4 1"))
	lays(t, "e1 d c b a 1 / r1 a 0 1", hand("0 d c b a", "e e1 1 2 3 4 1", "r r1 4 0 1"))
	lays(t, ".subckt s a b c / r1 c n 1 / r2 a n 1 / .ends / x1 p q r s / r1 p q 1", hand("0 r x1.n p q", "r x1.r1 1 2 1", "r x1.r2 3 2 1", "r r1 3 4 1"))
	// q is a node of no device, and so none at all; x1 has a node that nobody's cards have.
	f := right(t, ".subckt s a b / r1 a 0 1 / .ends / x1 p q s", 2, 1, 1)
	if k, err := flat.Node(f, "q"); k != 0 || err != api.ErrNone {
		t.Error(k, err)
	}
}

func TestTheGround(t *testing.T) {
	ground := ".subckt s a b / r1 a 0 1 / r2 0 b 1 / r3 a b 1 / .ends"
	lays(t, behind(ground, "x1 p q s"), hand("0 p q", "r x1.r1 1 0 1", "r x1.r2 0 2 1", "r x1.r3 1 2 1"))
	lays(t, behind(ground, "x1 0 q s"), hand("0 q", "r x1.r1 0 0 1", "r x1.r2 0 1 1", "r x1.r3 0 1 1"))
	lays(t, behind(ground, "x1 0 0 s"), hand("0", "r x1.r1 0 0 1", "r x1.r2 0 0 1", "r x1.r3 0 0 1"))
	lays(t, behind(ground, ".subckt q a / x1 0 a s / .ends / x1 p q / x2 0 q"),
		hand("0 p", "r x1.x1.r1 0 0 1", "r x1.x1.r2 0 1 1", "r x1.x1.r3 0 1 1", "r x2.x1.r1 0 0 1", "r x2.x1.r2 0 0 1", "r x2.x1.r3 0 0 1"))
	// 00 and others like it are nodes of their own.
	lays(t, ".subckt s 00 / r1 00 0_ 1 / r2 000 0 1 / .ends / r1 00 0 1 / x0 000 s",
		hand("0 00 000 x0.0_ x0.000", "r r1 1 0 1", "r x0.r1 2 3 1", "r x0.r2 4 0 1"))
	if k, err := flat.Node(hand("0 a"), "0"); k != 0 || err != api.OK {
		t.Error(k, err)
	}
}

func TestTwoPortsThatAreOneNode(t *testing.T) {
	three := ".subckt s a b c / r1 a b 1 / r2 b c 1 / r3 c n 1 / .ends"
	lays(t, behind(three, "x1 p p q s"), hand("0 p q x1.n", "r x1.r1 1 1 1", "r x1.r2 1 2 1", "r x1.r3 2 3 1"))
	lays(t, behind(three, "x1 p q p s"), hand("0 p q x1.n", "r x1.r1 1 2 1", "r x1.r2 2 1 1", "r x1.r3 1 3 1"))
	lays(t, behind(three, ".subckt q a b / x1 a b b s / .ends / x1 p p q"), hand("0 p x1.x1.n", "r x1.x1.r1 1 1 1", "r x1.x1.r2 1 1 1", "r x1.x1.r3 1 2 1"))
}

// A name says nothing outside of its list: the netlist's nodes and devices, and those of others, have the same ones.
func TestOneNameInSeveralLists(t *testing.T) {
	lays(t, ".subckt s a b / r1 b a 1 / r2 a c 1 / .ends / .subckt q b a / x1 a b s / r1 c b 2 / .ends / r1 a b 3 / x1 b a q / r2 c a 4",
		hand("0 a b x1.x1.c x1.c c", "r r1 1 2 3", "r x1.x1.r1 2 1 1", "r x1.x1.r2 1 3 1", "r x1.r1 4 2 2", "r r2 5 1 4"))
	lays(t, ".subckt x1 x1 / r1 x1 r1 1 / .ends / x1 r1 x1 / r1 x1 0 1", hand("0 r1 x1.r1 x1", "r x1.r1 1 2 1", "r r1 3 0 1"))
}

func TestRefs(t *testing.T) {
	lays(t, "v1 a 0 5 / f1 a 0 v1 2 / h1 b 0 v1 3", hand("0 a b", "v v1 1 0 dc 5", "f f1 1 0 0 2", "h h1 2 0 0 3"))
	lays(t, "h1 b 0 v2 3 / v1 a 0 5 / r1 a b 1 / f1 a 0 v1 2 / v2 a b 6", hand("0 b a", "h h1 1 0 4 3", "v v1 2 0 dc 5", "r r1 2 1 1", "f f1 2 0 1 2", "v v2 2 1 dc 6"))
	// Each list has its own v1; of a subcircuit that is gone into twice each device leans on the source beside it.
	lean := ".subckt s a / f1 a 0 v1 2 / v1 a n 1 / .ends"
	lays(t, behind("v1 a 0 5", lean, "x1 a s", "x2 b s", "h1 b 0 v1 3"),
		hand("0 a x1.n b x2.n", "v v1 1 0 dc 5", "f x1.f1 1 0 2 2", "v x1.v1 1 2 dc 1", "f x2.f1 3 0 4 2", "v x2.v1 3 4 dc 1", "h h1 3 0 0 3"))
	lays(t, behind(lean, ".subckt q a / h1 a 0 v1 4 / x1 a s / v1 0 a 7 / .ends", "x1 a q"),
		hand("0 a x1.x1.n", "h x1.h1 1 0 3 4", "f x1.x1.f1 1 0 2 2", "v x1.x1.v1 1 2 dc 1", "v x1.v1 0 1 dc 7"))
	// What stands between, x's among it, moves the source.
	lays(t, behind(div, "f1 a 0 v1 2", "x1 a b div", "v1 a 0 5"),
		hand("0 a b x1.m", "f f1 1 0 4 2", "r x1.r1 1 2 1k", "r x1.r2 2 0 1k", "r x1.r3 2 3 1k", "v v1 1 0 dc 5"))
}

func TestModels(t *testing.T) {
	lays(t, ".model a d 1 / .model b s 1 2 3 / .model c d 4 5 6 / .subckt s p / d1 p 0 c / s1 p 0 p 0 b / .ends / d1 a b a / x1 a s / d2 a b c / s1 a 0 b 0 b",
		hand("0 a b", "d d1 1 2 a d 1", "d x1.d1 1 0 c d 4 5 6", "s x1.s1 1 0 1 0 b s 1 2 3", "d d2 1 2 c d 4 5 6", "s s1 1 0 2 0 b s 1 2 3"))
}

// Long names of nine names with as many bytes as may be.
func TestTheLongestNames(t *testing.T) {
	x, node, port := "x"+strings.Repeat("_", 15), strings.Repeat("n", 16), strings.Repeat("9", 16)
	deep := ".subckt s1 " + port + " / r" + x[1:] + " " + node + " " + port + " 1 / .ends"
	for k := 2; k <= api.MaxSubs; k++ {
		deep = behind(deep, strings.NewReplacer("#", string(rune('0'+k)), "@", string(rune('0'+k-1))).Replace(".subckt s# p / "+x+" p s@ / .ends"))
	}
	ahead := strings.Repeat(x+".", 8)
	f := hand("0 "+ahead+node+" a", "r "+ahead+"r"+x[1:]+" 1 2 1")
	lays(t, behind(deep, x+" a s8"), f)
	takes(t, f)
	if len(f.Nodes[1]) != 152 {
		t.Error(f)
	}
	f.Nodes[1] += "n"
	wrong(t, f, api.ErrFlat)
}

func TestAsManyDevicesAsMayBe(t *testing.T) {
	most := count("r# a 0 1", 1, 64)
	right(t, most, 2, 64, 1)
	one, two := ".subckt s p / r1 p 0 1 / .ends", ".subckt s p / r1 p 0 1 / r2 p 0 1 / .ends"
	right(t, behind(one, count("r# a 0 1", 1, 63), "x1 a s"), 2, 64, 1)
	right(t, behind(two, "x1 a s", count("r# a 0 1", 1, 62)), 2, 64, 1)
	right(t, behind(".subckt s p", most, ".ends", "x1 a s"), 2, 64, 1)
	refuses(t, behind(two, count("r# a 0 1", 1, 63), "x1 a s"), api.ErrMany)
	refuses(t, behind(two, "x1 a s", count("r# a 0 1", 1, 63)), api.ErrMany)
	refuses(t, behind(".subckt s p", most, ".ends", "x1 a s", "r1 a 0 1"), api.ErrMany)
	refuses(t, behind(".subckt s p", most, ".ends", "r1 a 0 1", "x1 a s"), api.ErrMany)
	// x's are no devices.
	right(t, behind(".subckt e p / .ends / .subckt s p", count("r# a 0 1", 1, 63), "x1 a e / .ends", "x1 a s / x2 b e / r1 a 0 1 / x3 a e"), 3, 64, 2)
}

func TestAsManyNodesAsMayBe(t *testing.T) {
	right(t, count("r# n# n## 1", 1, 30), 32, 30, 31)
	refuses(t, count("r# n# n## 1", 1, 31), api.ErrMany)
	right(t, behind(count("r# n# n## 1", 1, 30), "r99 n1 0 1"), 32, 31, 31)
	refuses(t, behind(count("r# n# 0 1", 1, 31), "r99 n1 z 1"), api.ErrMany)
	// The nodes of a subcircuit count as often as it is gone into, those that a port is not again.
	own := ".subckt s p / r1 p m 1 / r2 m n 1 / .ends"
	right(t, behind(own, count("x# a s", 1, 15)), 32, 30, 31)
	refuses(t, behind(own, count("x# a s", 1, 15), "r1 b 0 1"), api.ErrMany)
	refuses(t, behind(own, count("x# a# s", 1, 11)), api.ErrMany)
	right(t, behind(own, count("x# a# s", 1, 10), "r1 a11 0 1"), 32, 21, 31)
	// Nodes that only x's name are none.
	right(t, behind(".subckt s p q / r1 p 0 1 / .ends", count("x# n# m# s", 1, 31)), 32, 31, 31)
	refuses(t, behind(".subckt s p q / r1 p 0 1 / .ends", count("x# n# m# s", 1, 32)), api.ErrMany)
	// The last card's last node is one more.
	refuses(t, behind(count("r# n# 0 1", 1, 30), "g1 0 0 a b 1"), api.ErrMany)
}

// As many unknowns as may be, and one more, by nodes and by branches of every kind that has one.
func TestAsManyUnknownsAsMayBe(t *testing.T) {
	for kind, form := range map[string]string{"v": "v# n1 0 1", "e": "e# n1 0 n2 0 1", "c": "c# n1 0 1", "l": "l# n1 0 1", "t": "t# n1 0 n2 0 1", "h": "h# n1 0 v9 1"} {
		nodes := behind("v9 n1 0 1", count("r# n# n## 1", 1, 30))
		right(t, behind(nodes, count(form, 10, 25)), 32, 47, 48)
		refuses(t, behind(nodes, count(form, 10, 26)), api.ErrSize)
		right(t, behind("v9 n1 n2 1", count(form, 10, 54)), 3, 46, 48)
		refuses(t, behind("v9 n1 n2 1", count(form, 10, 55)), api.ErrSize)
		f := tell(circuit(behind("v9 n1 n2 1", count(form, 10, 54)))).f
		f.Nodes = append(f.Nodes, "one_more")
		wrong(t, f, api.ErrSize)
		if _, err := flat.Node(f, "one_more"); err != api.OK {
			t.Errorf("%s: error %d", kind, err)
		}
	}
	for _, form := range []string{"r# n1 0 1", "i# n1 0 1", "g# n1 0 n2 0 1", "f# n1 0 v9 1", "d# n1 0 m", "s# n1 0 n2 0 q"} {
		right(t, behind(".model m d 1 / .model q s 1 2 3 / v9 n1 n2 1", count(form, 10, 72)), 3, 64, 3)
	}
	// In the place of x's, too.
	sub := ".subckt s p / v1 p n 1 / c1 n 0 1 / .ends"
	right(t, behind(sub, count("x# a s", 1, 15), "l1 a 0 1 / l2 a 0 1"), 17, 32, 48)
	refuses(t, behind(sub, count("x# a s", 1, 15), "l1 a 0 1 / l2 a 0 1 / l3 a 0 1"), api.ErrSize)
}

// deep is a circuit whose x's go into an empty subcircuit, or one with such cards, in the place of so many x: four times
// 64 of them, and one more.
func deep(inner string, more string) string {
	return behind(".subckt e p", inner, ".ends / .subckt s p", count("x# p e", 1, 63), ".ends", count("x# a s", 1, 4), more)
}

func TestAsManyCallsAsMayBe(t *testing.T) {
	right(t, deep("", ""), 1, 0, 0)
	right(t, deep("", "r1 a 0 1"), 2, 1, 1)
	refuses(t, deep("", "x5 a e"), api.ErrMany)
	refuses(t, deep("", "r1 a 0 1 / x5 a e"), api.ErrMany)
	refuses(t, deep("", "x5 a s"), api.ErrMany)
	right(t, deep("", count("r# a 0 1", 1, 60)), 2, 60, 1)
	// 192 x's of an empty subcircuit, in 4 x's of one that has 16 devices beside them: 196 calls, and as many devices as may be.
	full := behind(".subckt e p / .ends / .subckt s p", count("x# p e", 1, 48), count("r# p 0 1", 1, 16), ".ends", count("x# a s", 1, 4))
	right(t, behind(full, count("x# a e", 5, 60)), 2, 64, 1)
	right(t, behind(full, ".subckt q p", count("x# p e", 1, 59), ".ends / x5 a q"), 2, 64, 1)
	right(t, behind(full, ".subckt q p", count("x# p e", 1, 59), ".ends", "x5 a q", ".subckt o p / .ends"), 2, 64, 1)
	refuses(t, behind(full, ".subckt q p", count("x# p e", 1, 59), ".ends", "x5 a q", "x6 a e"), api.ErrMany)
	refuses(t, behind(full, ".subckt q p", count("x# p e", 1, 60), ".ends", "x5 a q"), api.ErrMany)
	// Each subcircuit with an x of the one ahead in it: 8 calls a time.
	chain := behind(".subckt s1 p / .ends", count(".subckt s## p / x1 p s# / .ends", 1, 7))
	right(t, behind(chain, count("x# a s8", 1, 32)), 1, 0, 0)
	refuses(t, behind(chain, count("x# a s8", 1, 32), "x33 a s1"), api.ErrMany)
	right(t, behind(chain, count("x# a s8", 1, 31), count("x# a s1", 32, 39)), 1, 0, 0)
	refuses(t, behind(chain, count("x# a s8", 1, 31), count("x# a s1", 32, 40)), api.ErrMany)
}

// Subcircuits that stand in one another so often that no one could wait for all of them.
func TestSubcircuitsInOneAnother(t *testing.T) {
	for _, inner := range []string{"", "r1 p 0 1", count("r# p n# 1", 1, 64), "v1 p 0 1 / f1 p n v1 1"} {
		for _, wide := range []int{2, 3, 8, 64} {
			text := behind(".subckt s1 p", inner, ".ends")
			for k := 1; k < api.MaxSubs; k++ {
				head := strings.ReplaceAll(".subckt s# p", "#", string(rune('1'+k)))
				text = behind(text, head, count("x# p s"+string(rune('0'+k)), 1, wide), ".ends")
			}
			want := api.ErrMany
			if inner == "" && wide == 2 {
				want = api.OK
			}
			if got := tell(circuit(behind(text, "x1 a s8"))); got.err != want || len(got.f.Devs) != 0 {
				t.Errorf("%q %d: %s", inner, wide, short(got))
			}
			refuses(t, behind(text, "x1 a s8 / x2 a s8"), api.ErrMany)
		}
	}
}
