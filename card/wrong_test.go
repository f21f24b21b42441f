package card_test

import (
	"math"
	"slices"
	"strings"
	"testing"

	"shunt/api"
	"shunt/card"
)

// fine are right lines of every kind of card and every form of a wave.
func fine() []string {
	return []string{
		"r1 a 0 1k", "c1 a 0 1u", "l1 a 0 1m", "v1 a 0 5", "i1 a 0 5", "v1 a 0 dc 5", "i1 a 0 dc 5", "v1 a b pulse 0 5 0 1 2 1 8", "i1 a b pulse 1 2 3 1 1 1 3",
		"v1 a b pwl 0 1", "v1 a b pwl 0 0 4 1 9 2", "i1 a b pwl 5 3 6 3", "v1 a b table 1", "i1 a b table 1 2 3", "e1 a b c d 2", "g1 a b c d 2", "t1 a b c d 2",
		"f1 a b v1 2", "h1 a b v1 2", "d1 a b dio", "s1 a b c d sw", "x1 a sub", "x1 a b sub", "x1 a b c d e f g h sub",
	}
}

func fineModels() []string {
	return []string{".model m d 1", ".model m d 1 2 3", ".model m d 1 2 3 4 5", ".model m d 1 2 3 4 5 6 7", ".model m s 1 2 3"}
}

func TestNoWords(t *testing.T) {
	unread(t, nil, api.ErrCard)
	unread(t, []string{}, api.ErrCard)
	for count := 1; count < 20; count++ {
		unread(t, make([]string, count), api.ErrCard)
	}
	refusesModel(t, "", api.ErrCard)
	for _, l := range []string{"~", "~ ~ ~ ~", ".model", ".model m", ".model m d", ".model m s", ".model ~ ~ ~"} {
		refusesModel(t, l, api.ErrCard)
	}
}

func TestNoDevice(t *testing.T) {
	for _, l := range fine() {
		for _, first := range []string{
			"~", "R1", "a1", "b1", "j1", "k1", "m1", "n1", "o1", "p1", "q1", "u1", "w1", "y1", "z1", "1", "0", "_r", "1r", ".r1", "*r1", "+r1", "r.1", "r-1", "r1;", "é", "\xff", "r\x00",
			".model", "r1234567890123456", strings.Repeat("r", 17), strings.Repeat("v", 300),
		} {
			line := words(l)
			line[0] = strings.TrimPrefix(first, "~")
			unread(t, line, api.ErrCard)
		}
	}
}

// A word too few or too many, wherever it is: that comes ahead of all that the words themselves are refused for.
func TestCountsOfWords(t *testing.T) {
	counts := map[string][]int{
		"r": {4}, "c": {4}, "l": {4}, "e": {6}, "g": {6}, "t": {6}, "f": {5}, "h": {5}, "d": {4}, "s": {6}, "x": {3, 4, 5, 6, 7, 8, 9, 10},
		"v": {4}, "i": {4}, "v a b dc": {5}, "i a b dc": {5}, "v a b pulse": {11}, "i a b pulse": {11},
		"v a b pwl":   {6, 8, 10, 12, 14, 16, 18, 20, 22, 24, 26, 28, 30, 32, 34, 36},
		"v a b table": {5, 6, 7, 8, 9, 10, 11, 12, 13, 14, 15, 16, 17, 18, 19, 20},
	}
	for first, may := range counts {
		for count := 1; count < 80; count++ {
			for _, fill := range []string{"0", "!", ""} {
				l := words(first)
				for len(l) < count {
					l = append(l, fill)
				}
				if len(l) > count {
					continue
				}
				if _, err := card.Read(l); (err == api.ErrCard) == slices.Contains(may, count) {
					t.Errorf("Read(%q): error %d", l, err)
				}
			}
		}
	}
	unread(t, append([]string{"x1"}, slices.Repeat([]string{"a"}, 100000)...), api.ErrCard)
	unread(t, append(words("v1 a b table"), slices.Repeat([]string{"1"}, 1<<16+16)...), api.ErrCard)
}

func TestCountsOfModelsWords(t *testing.T) {
	for kind, may := range map[string][]int{"d": {4, 6, 8, 10}, "s": {6}, "q": nil, "D": nil, "ds": nil, "": nil, "dd": nil, "r": nil, "\x00": nil} {
		for count := 3; count < 80; count++ {
			for _, fill := range []string{"0", "!", ""} {
				for _, name := range []string{"m", "M"} {
					l := append([]string{".model", name, kind}, slices.Repeat([]string{fill}, count-3)...)
					if _, err := card.ReadModel(l); (err == api.ErrCard) == slices.Contains(may, count) {
						t.Errorf("ReadModel(%q): error %d", l, err)
					}
				}
			}
		}
	}
}

func TestTheFirstWordOfModels(t *testing.T) {
	for _, l := range fineModels() {
		for _, first := range []string{"~", "model", ".Model", ".MODEL", ".models", ".mode", "..model", ".subckt", "d1", "m"} {
			line := words(l)
			line[0] = strings.TrimPrefix(first, "~")
			if m, err := card.ReadModel(line); !sameModel(m, api.Model{}) || err != api.ErrCard {
				t.Errorf("ReadModel(%q): %v with error %d", line, m, err)
			}
		}
	}
}

// places are where the rows of a line have a word of those kinds.
func places(row []string, what ...string) []int {
	var l []int
	for i, w := range row {
		if slices.Contains(what, w) {
			l = append(l, i)
		}
	}
	return l
}

func noNames() []string {
	return []string{"", "A", "aB", "a.b", "a-b", "a b", "-1", "1.5", ".", "*", "+", ";", "é", "a\x00", "\xff", "a\n", "n0123456789abcdef", strings.Repeat("a", 17), strings.Repeat("a", 256+5)}
}

// Each place of a name, with what is no name there; a number that isn't one makes no difference.
func TestNoNames(t *testing.T) {
	for _, l := range fine() {
		row := find(rows(l[0]), words(l))
		names := places(row, "A", "B", "C", "D", "N", "REF", "MODEL", "SUB")
		numbers := places(row, "X", "OTHER", "S")
		for _, i := range names {
			for _, name := range noNames() {
				line := words(l)
				line[i] = name
				unread(t, line, api.ErrName)
				for _, j := range numbers {
					bad := slices.Clone(line)
					bad[j] = "1q"
					unread(t, bad, api.ErrName)
					bad[j] = "0"
					unread(t, bad, api.ErrName)
				}
			}
		}
	}
	for _, l := range fineModels() {
		for _, name := range noNames() {
			line := words(l)
			line[1] = name
			for _, last := range []string{"1", "1q", "1e10"} {
				line[len(line)-1] = last
				if m, err := card.ReadModel(line); !sameModel(m, api.Model{}) || err != api.ErrName {
					t.Errorf("ReadModel(%q): %v with error %d", line, m, err)
				}
			}
		}
	}
	refusesModel(t, ".model M d 1 2 3 1 4", api.ErrName)
}

// REF is a device's name of kind v: no other's, and no name of another kind of thing.
func TestNoVoltageSources(t *testing.T) {
	for _, first := range []string{"f1", "h1"} {
		for i := range len(nameBytes) {
			for _, rest := range []string{"", "1", "v1"} {
				line := first + " a b " + nameBytes[i:i+1] + rest + " 2"
				if nameBytes[i] == 'v' {
					reads(t, line, api.Card{Name: first, Nodes: []string{"a", "b"}, Ref: "v" + rest, Value: n(2, 0)})
				} else {
					refuses(t, line, api.ErrName)
				}
			}
		}
		for _, ref := range []string{"V1", "v.1", "v123456789012345 ", "v1234567890123456", "v-1", "vé", "v\x00", "V"} {
			unread(t, []string{first, "a", "b", ref, "2"}, api.ErrName)
			unwritten(t, api.Card{Name: first, Nodes: []string{"a", "b"}, Ref: ref, Value: n(2, 0)})
		}
	}
}

func noTexts() []string {
	return []string{"", "a", "1q", "1.", ".5", "+1", "1K", "1e", "--1", "1 k", "1k1", "0x1", "1\n", "é", "pulse", "dc", strings.Repeat("1", 33)}
}

func noNums() []string {
	return []string{"1e10", "1e-19", "1234567891", "1t", "0.12345678901", "999999999e10"}
}

// Each place of a number, with what isn't one; and of two of them the first from the left.
func TestNoNumbers(t *testing.T) {
	for _, l := range fine() {
		row := find(rows(l[0]), words(l))
		wrongNumbers(t, row, words(l), func(line []string) (bool, api.Errno) {
			c, err := card.Read(line)
			return sameCard(c, api.Card{}), err
		})
	}
	for _, l := range fineModels() {
		row := find(modelRows(), words(l))
		wrongNumbers(t, row, words(l), func(line []string) (bool, api.Errno) {
			m, err := card.ReadModel(line)
			return sameModel(m, api.Model{}), err
		})
	}
}

func wrongNumbers(t *testing.T, row, l []string, read func([]string) (bool, api.Errno)) {
	t.Helper()
	all := places(row, "X", "OTHER", "S")
	for at, i := range all {
		for _, bad := range slices.Concat(noTexts(), noNums()) {
			if row[i] == "OTHER" && (bad == "dc" || bad == "pulse") {
				continue
			}
			want := api.ErrText
			if slices.Contains(noNums(), bad) && row[i] != "S" {
				want = api.ErrNum
			}
			line := slices.Clone(l)
			line[i] = bad
			if none, err := read(line); !none || err != want {
				t.Errorf("%q: error %d, not %d", line, err, want)
			}
			for _, j := range all[at+1:] {
				for _, later := range []string{"1q", "1e10", "01", "-1", "0"} {
					two := slices.Clone(line)
					two[j] = later
					if none, err := read(two); !none || err != want {
						t.Errorf("%q: error %d, not %d", two, err, want)
					}
				}
			}
		}
	}
}

func TestWavesThatArentRight(t *testing.T) {
	for _, first := range []string{"v1 a b ", "i9 0 0 "} {
		for _, w := range []string{
			"pulse 0 5 0 1 2 1 3", "pulse 0 5 0 0 0 0 0", "pulse 0 5 7 1 0 0 0", "pulse 0 5 0 1000000000 1 0 1000000000", "pulse 0 5 0 1000000000 1000000000 1000000000 1000000000",
			"pulse 0 0 0 2 0 0 1", "pulse 0 0 0 0 2 0 1", "pulse 0 0 0 0 0 2 1", "pwl 0 0 0 0", "pwl 1 0 0 0", "pwl 5 1 6 1 6 1", "pwl 5 1 7 1 6 1", "pwl 1000000000 1 0 1", "pwl 10 1 9 1",
		} {
			refuses(t, first+w, api.ErrWave)
		}
		refuses(t, first+"pwl 1 0 0 1q", api.ErrText)
		refuses(t, first+"pwl 1 1e10 0 0", api.ErrNum)
		refuses(t, first+"pulse 0 5 0 1 2 1 03", api.ErrText)
		refuses(t, "v1 a! b pwl 1 0 0 0", api.ErrName)
		refuses(t, first+"pwl 1 0 0", api.ErrCard)
	}
}

func TestModelsThatArentRight(t *testing.T) {
	for _, l := range []string{
		".model d1 d 1 2 3 2 4", ".model d1 d 1 2 3 1 4", ".model d1 d 1 1 1 2 1 2 1", ".model d1 d 1 1 1 1 1 2 1", ".model d1 d 1 1k 1 999 1", ".model d1 d 0 0 0 0 0", ".model d1 d 1 3 1 2 1 1 1",
	} {
		refusesModel(t, l, api.ErrModel)
	}
	refusesModel(t, ".model d1 d 1 2 3 1 4q", api.ErrText)
	refusesModel(t, ".model d1 d 1 2 3 1 1e10", api.ErrNum)
	refusesModel(t, ".model d.1 d 1 2 3 1 4", api.ErrName)
	refusesModel(t, ".model d1 s 1 2 3 1 4", api.ErrCard)
}

// Two errors of one card: the one that the chapter names first.
func TestOrderOfErrors(t *testing.T) {
	refuses(t, "q1 A 0 0", api.ErrCard)
	refuses(t, "r1 A 0", api.ErrCard)
	refuses(t, "r1 A 0 1q", api.ErrName)
	refuses(t, "r1 a B 1e10", api.ErrName)
	refuses(t, "r1 A 0 0", api.ErrName)
	refuses(t, "f1 a b r1 1q", api.ErrName)
	refuses(t, "f1 a b r1 1e10", api.ErrName)
	refuses(t, "v1 a b pulse 1q 1e10 0 1 2 1 3", api.ErrText)
	refuses(t, "v1 a b pulse 1e10 1q 0 1 2 1 3", api.ErrNum)
	refuses(t, "v1 a b pulse 0 1e10 00 1 2 1 3", api.ErrNum)
	refuses(t, "v1 a b pwl 00 1e10", api.ErrText)
	refuses(t, "v1 a b pwl 0 1e10 00 1", api.ErrNum)
	refuses(t, "v1 a b pwl 1000000001 1e10", api.ErrText)
	refusesModel(t, ".model D q 1q", api.ErrCard)
	refusesModel(t, ".model D d 1q", api.ErrName)
	refusesModel(t, ".model d d 1e10 1q 1", api.ErrNum)
	refusesModel(t, ".model d d 1q 1e10 1", api.ErrText)
}

func wrongNums() []api.Num {
	return []api.Num{
		n(10, 0), n(-10, 0), n(0, 1), n(0, -1), n(1000000000, 0), n(1000000001, 0), n(1, 10), n(1, -19), n(5, math.MaxInt), n(5, math.MinInt), n(math.MaxInt64, 0), n(math.MinInt64, 0), n(1, 1<<32),
	}
}

// Cards made by hand: a field that the kind doesn't have.
func TestFieldsThatTheKindDoesntHave(t *testing.T) {
	for _, l := range fine() {
		right, err := card.Read(words(l))
		if err != api.OK {
			t.Fatal(l, err)
		}
		kind := right.Name[0]
		if !strings.ContainsRune("fhdsx", rune(kind)) {
			for _, ref := range []string{"v1", "a", "5", "A", " "} {
				c := right
				c.Ref = ref
				unwritten(t, c)
			}
		}
		if strings.ContainsRune("vidsx", rune(kind)) {
			for _, x := range []api.Num{n(1, 0), n(0, 1), n(-5, -3), n(10, 0)} {
				c := right
				c.Value = x
				unwritten(t, c)
			}
		}
		if !strings.ContainsRune("vi", rune(kind)) {
			for _, w := range []api.Wave{
				{Kind: api.WaveDC, Vals: list(n(1, 0))}, {Kind: 1}, {Kind: -1}, {Vals: list(n(0, 0))}, {Steps: []int{0}}, {Kind: api.WaveTable, Vals: list(n(0, 0))},
			} {
				c := right
				c.Wave = w
				unwritten(t, c)
			}
		}
	}
}

func TestNodesThatArentRight(t *testing.T) {
	for _, l := range fine() {
		right, _ := card.Read(words(l))
		for count := range 12 {
			c := right
			c.Nodes = slices.Repeat([]string{"a"}, count)
			if count == len(right.Nodes) || right.Name[0] == 'x' && 1 <= count && count <= 8 {
				if got, err := card.Write(c); err != api.OK || len(got) != len(words(l))+count-len(right.Nodes) && right.Wave.Kind != api.WaveDC {
					t.Errorf("Write(%v): %q, %d", c, got, err)
				}
				continue
			}
			unwritten(t, c)
		}
		for i := range right.Nodes {
			for _, name := range noNames() {
				c := right
				c.Nodes = slices.Clone(right.Nodes)
				c.Nodes[i] = name
				unwritten(t, c)
			}
		}
		for _, ref := range noNames() {
			if right.Ref != "" {
				c := right
				c.Ref = ref
				unwritten(t, c)
			}
		}
		for _, name := range append(noNames(), "q1", "a", "0") {
			c := right
			c.Name = name
			unwritten(t, c)
		}
	}
	unwritten(t, api.Card{})
	unwritten(t, api.Card{Name: "x1", Nodes: slices.Repeat([]string{"a"}, 100000), Ref: "sub"})
}

// Words of the wrong card may be right ones: they tell another card.
func TestCardsThatReadAsOthers(t *testing.T) {
	dc := api.Wave{Kind: api.WaveDC, Vals: list(n(5, 0))}
	unwritten(t, api.Card{Name: "v1", Nodes: []string{"a", "b", "5"}})
	unwritten(t, api.Card{Name: "v1", Nodes: []string{"a", "b", "dc", "5"}})
	unwritten(t, api.Card{Name: "v1", Nodes: []string{"a", "b", "table"}, Wave: dc})
	unwritten(t, api.Card{Name: "v1", Nodes: []string{"a", "b", "table", "1"}, Wave: api.Wave{Kind: 9}})
	unwritten(t, api.Card{Name: "v1", Nodes: []string{"a", "b", "5"}, Wave: api.Wave{Kind: api.WaveDC}})
	unwritten(t, api.Card{Name: "v1", Nodes: []string{"a", "b", "pwl", "0"}, Wave: dc})
	unwritten(t, api.Card{Name: "r1", Nodes: []string{"a", "b", "5"}})
	unwritten(t, api.Card{Name: "r1", Nodes: []string{"a"}, Ref: "b", Value: n(5, 0)})
	unwritten(t, api.Card{Name: "f1", Nodes: []string{"a", "b", "v1"}, Value: n(5, 0)})
	unwritten(t, api.Card{Name: "d1", Nodes: []string{"a", "b", "dio"}})
	unwritten(t, api.Card{Name: "s1", Nodes: []string{"a", "b", "c"}, Ref: "d"})
	unwritten(t, api.Card{Name: "x1", Nodes: []string{"a", "b"}})
	unwritten(t, api.Card{Name: "x1", Ref: "b"})
	unwritten(t, api.Card{Name: "x1", Nodes: []string{"a b"}, Ref: "c"})
	unwritten(t, api.Card{Name: "r1 a", Nodes: []string{"b"}, Value: n(5, 0)})
}

func TestNumbersThatArentRight(t *testing.T) {
	for _, x := range wrongNums() {
		for _, l := range fine() {
			right, _ := card.Read(words(l))
			if right.Wave.Kind == 0 {
				right.Value = x
				unwritten(t, right)
			}
			for i := range right.Wave.Vals {
				c := right
				c.Wave.Vals = slices.Clone(right.Wave.Vals)
				c.Wave.Vals[i] = x
				unwritten(t, c)
			}
		}
		for _, l := range fineModels() {
			right, _ := card.ReadModel(words(l))
			for i := range right.G {
				m := right
				m.G = slices.Clone(right.G)
				m.G[i] = x
				unwrittenModel(t, m)
			}
			for i := range right.V {
				m := right
				m.V = slices.Clone(right.V)
				m.V[i] = x
				unwrittenModel(t, m)
			}
		}
	}
	for _, name := range []string{"r1", "c1", "l1"} {
		unwritten(t, api.Card{Name: name, Nodes: []string{"a", "b"}})
	}
}

func TestWavesMadeByHand(t *testing.T) {
	one := list(n(1, 0))
	two := list(n(1, 0), n(2, 0))
	for _, w := range []api.Wave{
		{}, {Vals: one}, {Kind: 5, Vals: one}, {Kind: -1, Vals: one}, {Kind: 1<<32 + 1, Vals: one}, {Kind: 1}, {Kind: 1, Vals: two}, {Kind: 1, Vals: one, Steps: []int{0}},
		{Kind: 2, Vals: two}, {Kind: 2, Vals: one, Steps: []int{0, 0, 0, 0, 1}}, {Kind: 2, Vals: two, Steps: []int{0, 0, 0, 0, 0}}, {Kind: 2, Vals: two, Steps: []int{0, 0, 0, 1}},
		{Kind: 2, Vals: two, Steps: []int{0, 0, 0, 0, 1, 1}}, {Kind: 2, Vals: two, Steps: []int{-1, 0, 0, 0, 1}}, {Kind: 2, Vals: two, Steps: []int{0, 0, 0, 0, 1000000001}},
		{Kind: 2, Vals: two, Steps: []int{0, 1, 2, 1, 3}}, {Kind: 2, Vals: two, Steps: []int{0, math.MaxInt, 1, 1, 1}}, {Kind: 3}, {Kind: 3, Vals: two, Steps: []int{0}},
		{Kind: 3, Vals: one, Steps: []int{0, 1}}, {Kind: 3, Vals: two, Steps: []int{1, 1}}, {Kind: 3, Vals: two, Steps: []int{1, 0}}, {Kind: 3, Vals: one, Steps: []int{-1}},
		{Kind: 3, Vals: one, Steps: []int{math.MinInt}}, {Kind: 3, Vals: one, Steps: []int{1000000001}}, {Kind: 3, Vals: one}, {Kind: 3, Steps: []int{1}}, {Kind: 4}, {Kind: 4, Steps: []int{1}},
		{Kind: 4, Vals: one, Steps: []int{1}},
	} {
		for _, name := range []string{"v1", "i1"} {
			unwritten(t, api.Card{Name: name, Nodes: []string{"a", "b"}, Wave: w})
		}
	}
}

func TestModelsMadeByHand(t *testing.T) {
	g, v := list(n(1, 0), n(2, 0), n(3, 0), n(4, 0), n(5, 0)), list(n(1, 0), n(2, 0), n(3, 0), n(4, 0))
	for kind := range 256 {
		for gs := range 6 {
			for vs := range 5 {
				m := api.Model{Name: "m", Kind: byte(kind), G: g[:gs], V: v[:vs]}
				if kind == 'd' && 1 <= gs && gs <= 4 && vs == gs-1 || kind == 's' && gs == 2 && vs == 1 {
					if _, err := card.WriteModel(m); err != api.OK {
						t.Errorf("WriteModel(%v): %d", m, err)
					}
				} else {
					unwrittenModel(t, m)
				}
			}
		}
	}
	for _, name := range noNames() {
		unwrittenModel(t, api.Model{Name: name, Kind: 'd', G: g[:1]})
		unwrittenModel(t, api.Model{Name: name, Kind: 's', G: g[:2], V: v[:1]})
	}
	unwrittenModel(t, api.Model{})
	unwrittenModel(t, api.Model{Name: "m", Kind: 'd', G: g[:3], V: list(n(2, 0), n(1, 0))})
	unwrittenModel(t, api.Model{Name: "m", Kind: 'd', G: g[:3], V: list(n(2, 0), n(2, 0))})
}
