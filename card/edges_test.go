package card_test

import (
	"slices"
	"strconv"
	"strings"
	"testing"

	"shunt/api"
	"shunt/card"
)

const nameBytes = "abcdefghijklmnopqrstuvwxyz0123456789_"

// Each byte there is, at each place of names of each length.
func TestBytesOfNames(t *testing.T) {
	for b := range 256 {
		fine := strings.IndexByte(nameBytes, byte(b)) >= 0
		kind := strings.IndexByte(kinds, byte(b)) >= 0
		for count := 1; count <= api.MaxName+2; count++ {
			for at := range count {
				s := slices.Repeat([]byte{'r'}, count)
				s[at] = byte(b)
				name := string(s)
				if card.Name(name) != (fine && count <= 16) {
					t.Fatalf("Name(%q): %v", name, card.Name(name))
				}
				if card.Device(name) != (fine && count <= 16 && (at > 0 || kind)) {
					t.Fatalf("Device(%q): %v", name, card.Device(name))
				}
			}
		}
	}
}

func TestNames(t *testing.T) {
	for _, s := range []string{"0", "a", "_", "9", "in", "a_b", "0123456789abcdef", "________________", "pulse", "dc", "v1", "r", strings.Repeat("z", 16)} {
		if !card.Name(s) {
			t.Errorf("Name(%q): false", s)
		}
	}
	for _, s := range []string{"", " ", "A", "a.b", "a b", "a\n", "\x00", "a\x00", "\xff", "é", "a-b", "+a", "a;", strings.Repeat("z", 17), strings.Repeat("z", 1<<16), strings.Repeat("z", 257)} {
		if card.Name(s) || card.Device(s) {
			t.Errorf("Name(%q): %v, Device: %v", s, card.Name(s), card.Device(s))
		}
	}
	for _, s := range []string{"r", "c_", "x0123456789abcde", "v1", "zr", "1r", "_r", "0", "q1"} {
		if want := strings.Contains(kinds, s[:1]); card.Device(s) != want {
			t.Errorf("Device(%q): %v", s, !want)
		}
	}
}

// Each kind of card, with names of one byte and of sixteen.
func TestEveryKind(t *testing.T) {
	const long = "x_0123456789abcd"
	two, four := []string{"a", "0"}, []string{"a", "0", long, "b"}
	for i := range len(kinds) {
		for _, rest := range []string{"", "1", "_23456789abcdef0"[:15]} {
			name := kinds[i:i+1] + rest
			switch kinds[i] {
			case 'r', 'c', 'l':
				goes(t, name+" a 0 1k", api.Card{Name: name, Nodes: two, Value: n(1, 3)})
				goes(t, name+" "+long+" "+long+" -3n", api.Card{Name: name, Nodes: []string{long, long}, Value: n(-3, -9)})
			case 'v', 'i':
				goes(t, name+" a 0 dc 5m", api.Card{Name: name, Nodes: two, Wave: api.Wave{Kind: api.WaveDC, Vals: list(n(5, -3))}})
			case 'e', 'g', 't':
				goes(t, name+" a 0 "+long+" b 2", api.Card{Name: name, Nodes: four, Value: n(2, 0)})
				goes(t, name+" a 0 "+long+" b 0", api.Card{Name: name, Nodes: four})
			case 'f', 'h':
				for _, ref := range []string{"v", "v1", "v_0123456789abcd"} {
					goes(t, name+" a 0 "+ref+" 2", api.Card{Name: name, Nodes: two, Ref: ref, Value: n(2, 0)})
					goes(t, name+" a 0 "+ref+" 0", api.Card{Name: name, Nodes: two, Ref: ref})
				}
			case 'd':
				for _, ref := range []string{"0", "dio", long} {
					goes(t, name+" a 0 "+ref, api.Card{Name: name, Nodes: two, Ref: ref})
				}
			case 's':
				for _, ref := range []string{"0", "sw", long} {
					goes(t, name+" a 0 "+long+" b "+ref, api.Card{Name: name, Nodes: four, Ref: ref})
				}
			}
		}
	}
}

func TestCallsOfSubcircuits(t *testing.T) {
	for count := 1; count <= api.MaxPorts; count++ {
		var nodes []string
		for i := range count {
			nodes = append(nodes, "n"+strconv.Itoa(i))
		}
		for _, sub := range []string{"0", "amp", "_0123456789abcde"} {
			goes(t, "x1 "+strings.Join(nodes, " ")+" "+sub, api.Card{Name: "x1", Nodes: nodes, Ref: sub})
		}
	}
	goes(t, "x 0 0", api.Card{Name: "x", Nodes: []string{"0"}, Ref: "0"})
}

// The numbers are read in all of layer 3's forms, and written in the one.
func TestForms(t *testing.T) {
	for in, out := range map[string]string{
		"004.70k": "4700", "1e9": "1g", "-0.5": "-500m", "2meg": "2meg", "1e-18": "1e-18", "999999999g": "999999999g", "0000000001": "1", "10": "10", "0.005t": "5g",
	} {
		for _, l := range []string{"r1 a b ", "c1 a b ", "l1 a b ", "e1 a b c d ", "g1 a b c d ", "t1 a b c d ", "f1 a b v1 ", "h1 a b v1 ", "v1 a b dc ", "v1 a b table 1 ", "i1 a b pwl 7 "} {
			c, err := card.Read(words(l + in))
			if err != api.OK {
				t.Errorf("Read(%s): error %d", l+in, err)
			}
			writes(t, c, l+out)
		}
	}
	for _, zero := range []string{"0", "-0", "00.000", "0k", "0e99", "-0e-99"} {
		for _, l := range []string{"r1 a b ", "c1 a b ", "l1 a b "} {
			refuses(t, l+zero, api.ErrZero)
		}
		for _, l := range []string{"e1 a b c d ", "g1 a b c d ", "t1 a b c d ", "f1 a b v1 ", "h1 a b v1 ", "v1 a b dc ", "i1 a b table "} {
			c, _ := card.Read(words(l + zero))
			writes(t, c, l+"0")
		}
		reads(t, "i1 a b "+zero, api.Card{Name: "i1", Nodes: []string{"a", "b"}, Wave: api.Wave{Kind: api.WaveDC, Vals: list(n(0, 0))}})
	}
}

func source(w api.Wave) api.Card { return api.Card{Name: "i2", Nodes: []string{"p", "q"}, Wave: w} }

func TestPoints(t *testing.T) {
	var vals []api.Num
	var steps []int
	pwl, table := "i2 p q pwl", "i2 p q table"
	for k := range api.MaxPoints {
		vals = append(vals, n(int64(k+1), -6))
		steps = append(steps, 3*k)
		if vals[k].Mant == 10 {
			vals[k].Mant = 33
		}
		x := strconv.Itoa(int(vals[k].Mant)) + "u"
		pwl += " " + strconv.Itoa(3*k) + " " + x
		table += " " + x
		goes(t, pwl, source(api.Wave{Kind: api.WavePwl, Vals: vals, Steps: steps}))
		goes(t, table, source(api.Wave{Kind: api.WaveTable, Vals: vals}))
	}
	refuses(t, pwl+" 99 1", api.ErrCard)
	refuses(t, table+" 1", api.ErrCard)
	unwritten(t, source(api.Wave{Kind: api.WavePwl, Vals: append(vals, n(1, 0)), Steps: append(steps, 99)}))
	unwritten(t, source(api.Wave{Kind: api.WaveTable, Vals: append(vals, n(1, 0))}))
}

func TestStepNumbers(t *testing.T) {
	for _, s := range []string{"0", "1", "9", "10", "123456789", "999999999", "1000000000", "100000000"} {
		k, _ := strconv.Atoi(s)
		goes(t, "i2 p q pwl "+s+" 3", source(api.Wave{Kind: api.WavePwl, Vals: list(n(3, 0)), Steps: []int{k}}))
		goes(t, "i2 p q pulse 3 4 "+s+" 0 0 0 1", source(api.Wave{Kind: api.WavePulse, Vals: list(n(3, 0), n(4, 0)), Steps: []int{k, 0, 0, 0, 1}}))
		for i := 1; i < 4; i++ {
			steps := []int{0, 0, 0, 0, max(k, 1)}
			steps[i] = k
			var l []string
			for _, s := range steps {
				l = append(l, strconv.Itoa(s))
			}
			goes(t, "i2 p q pulse 3 4 "+strings.Join(l, " "), source(api.Wave{Kind: api.WavePulse, Vals: list(n(3, 0), n(4, 0)), Steps: steps}))
		}
	}
	for _, s := range []string{
		"~", "00", "01", "007", "-0", "-1", "+1", "+0", "1.0", "1k", "1e3", "0x1", "1_0", " 1", "1000000001", "1000000010", "2000000000", "9999999999", "4294967296",
		"10000000000", "01000000000", "0000000000", "00000000001", "18446744073709551616", "99999999999999999999999", "a", "٣", "1\n", "\x00", "/", ":",
	} {
		for i := range 5 {
			l := words("i2 p q pulse 0 1 0 0 0 0 1")
			l[6+i] = strings.TrimPrefix(s, "~")
			unread(t, l, api.ErrText)
		}
		for i := range 2 {
			l := words("v1 p q pwl 0 1 1 1")
			l[4+2*i] = strings.TrimPrefix(s, "~")
			unread(t, l, api.ErrText)
		}
	}
}

// The fourth word alone tells the form, whatever the others are.
func TestTheFourthWord(t *testing.T) {
	goes(t, "v1 dc pulse dc 5", api.Card{Name: "v1", Nodes: []string{"dc", "pulse"}, Wave: api.Wave{Kind: api.WaveDC, Vals: list(n(5, 0))}})
	goes(t, "v1 pwl table table 5", api.Card{Name: "v1", Nodes: []string{"pwl", "table"}, Wave: api.Wave{Kind: api.WaveTable, Vals: list(n(5, 0))}})
	reads(t, "v1 pwl table 5", api.Card{Name: "v1", Nodes: []string{"pwl", "table"}, Wave: api.Wave{Kind: api.WaveDC, Vals: list(n(5, 0))}})
	goes(t, "r1 dc table 5", api.Card{Name: "r1", Nodes: []string{"dc", "table"}, Value: n(5, 0)})
	goes(t, "e1 a b dc pulse 5", api.Card{Name: "e1", Nodes: []string{"a", "b", "dc", "pulse"}, Value: n(5, 0)})
	goes(t, "x1 a b dc pulse", api.Card{Name: "x1", Nodes: []string{"a", "b", "dc"}, Ref: "pulse"})
	goes(t, "d1 a b pwl", api.Card{Name: "d1", Nodes: []string{"a", "b"}, Ref: "pwl"})
	for _, kind := range []string{"v1", "i1"} {
		for line, err := range map[string]api.Errno{
			"": api.ErrCard, "dc": api.ErrCard, "dc 5 6": api.ErrCard, "dc dc 5": api.ErrCard, "dc dc": api.ErrText, "dc pulse": api.ErrText, "5 6": api.ErrCard, "5 dc": api.ErrCard,
			"pwl": api.ErrCard, "pwl 0": api.ErrCard, "pwl 0 0 1": api.ErrCard, "pwl pwl 0": api.ErrText, "pwl 0 pwl": api.ErrText, "table": api.ErrCard, "table table": api.ErrText,
			"pulse": api.ErrCard, "pulse 0 5 0 1 2 1": api.ErrCard, "pulse 0 5 0 1 2 1 8 9": api.ErrCard, "pulse 5": api.ErrCard, "pulses": api.ErrText, "pulses 0 5 0 1 2 1 8": api.ErrCard,
			"d": api.ErrText, "dcx": api.ErrText, "DC": api.ErrText, "DC 5": api.ErrCard, "tabl 5": api.ErrCard, "Pulse 0 5 0 1 2 1 8": api.ErrCard, "~": api.ErrText, "~ 5": api.ErrCard,
			"sin 1": api.ErrCard, "sin": api.ErrText, "PWL 0 0": api.ErrCard, "pwlx 0 0": api.ErrCard, "v1": api.ErrText,
		} {
			refuses(t, kind+" a b "+line, err)
		}
		refuses(t, kind+" a", api.ErrCard)
		refuses(t, kind, api.ErrCard)
		refuses(t, kind+" dc 5", api.ErrCard)
		reads(t, kind+" a dc 5", api.Card{Name: kind, Nodes: []string{"a", "dc"}, Wave: api.Wave{Kind: api.WaveDC, Vals: list(n(5, 0))}})
	}
}

func TestModels(t *testing.T) {
	long := strings.Repeat("m", 16)
	g, v := list(n(1, -6), n(2, -6), n(3, -6), n(4, -6)), list(n(-1, 0), n(0, 0), n(1, 0))
	goesModel(t, ".model 0 d 1u", api.Model{Name: "0", Kind: 'd', G: g[:1]})
	goesModel(t, ".model d d 1u -1 2u", api.Model{Name: "d", Kind: 'd', G: g[:2], V: v[:1]})
	goesModel(t, ".model s d 1u -1 2u 0 3u", api.Model{Name: "s", Kind: 'd', G: g[:3], V: v[:2]})
	goesModel(t, ".model "+long+" d 1u -1 2u 0 3u 1 4u", api.Model{Name: long, Kind: 'd', G: g, V: v})
	goesModel(t, ".model _ s 1u -1 2u", api.Model{Name: "_", Kind: 's', G: g[:2], V: v[:1]})
	goesModel(t, ".model "+long+" s 0 0 0", api.Model{Name: long, Kind: 's', G: list(n(0, 0), n(0, 0)), V: list(n(0, 0))})
	goesModel(t, ".model model s -999999999g 1e-18 1f", api.Model{Name: "model", Kind: 's', G: list(n(-999999999, 9), n(1, -15)), V: list(n(1, -18))})
	readsModel(t, ".model sw s 0.000 2.50 01k", api.Model{Name: "sw", Kind: 's', G: list(n(0, 0), n(1, 3)), V: list(n(25, -1))})
	readsModel(t, ".model q d 0k", api.Model{Name: "q", Kind: 'd', G: list(n(0, 0))})
}

// A list without elements is one with no list.
func TestEmptyLists(t *testing.T) {
	c := api.Card{Name: "r1", Nodes: []string{"a", "b"}, Value: n(1, 0), Wave: api.Wave{Vals: []api.Num{}, Steps: []int{}}}
	writes(t, c, "r1 a b 1")
	c = api.Card{Name: "v1", Nodes: []string{"a", "b"}, Wave: api.Wave{Kind: api.WaveDC, Vals: list(n(1, 0)), Steps: []int{}}}
	writes(t, c, "v1 a b dc 1")
	l, err := card.WriteModel(api.Model{Name: "m", Kind: 'd', G: list(n(1, 0)), V: []api.Num{}})
	if !slices.Equal(l, words(".model m d 1")) || err != api.OK {
		t.Error(l, err)
	}
}
