package card_test

import (
	"slices"
	"strconv"
	"strings"
	"testing"

	"shunt/api"
	"shunt/card"
	"shunt/model"
	"shunt/num"
	"shunt/wave"
)

// asMeant fails unless Read and ReadModel answer what the chapter says.
func asMeant(t *testing.T, l []string) api.Errno {
	t.Helper()
	c, err := card.Read(l)
	if want, wantErr := meant(l); !sameCard(c, want) || err != wantErr {
		t.Fatalf("Read(%s): %v with error %d, not %v with error %d", short(l), c, err, want, wantErr)
	}
	m, modelErr := card.ReadModel(l)
	if want, wantErr := meantModel(l); !sameModel(m, want) || modelErr != wantErr {
		t.Fatalf("ReadModel(%s): %v with error %d, not %v with error %d", short(l), m, modelErr, want, wantErr)
	}
	if len(l) > 0 && l[0] == ".model" {
		return modelErr
	}
	return err
}

// each hands on every list of so many of the words.
func each(from []string, count int, take func([]string)) {
	if count == 0 {
		take(nil)
		return
	}
	each(from, count-1, func(l []string) {
		for _, w := range from {
			take(append(slices.Clone(l), w))
		}
	})
}

// Every list of a few words, behind every first word.
func TestShortLinesAreReadAsMeant(t *testing.T) {
	from := []string{"a", "v1", "0", "1", "2.5k", "", "A", "dc", "1e10"}
	for i := range len(kinds) {
		for count := range 5 {
			each(from, count, func(l []string) { asMeant(t, append([]string{kinds[i : i+1]}, l...)) })
		}
	}
	for _, first := range []string{"v1 a b", "i1 0 A"} {
		for _, form := range []string{"", "dc", "pwl", "table", "pulse"} {
			for count := range 6 {
				each([]string{"0", "1", "2", "1q", "01"}, count, func(l []string) { asMeant(t, append(words(first+" "+form), l...)) })
			}
		}
	}
	for _, first := range []string{".model", ".model m", ".model m d", ".model m s", ".model M d", ".model m q", ".model m d 1 2 3"} {
		for count := range 6 {
			each([]string{"0", "1", "2", "1q", "1e10"}, count, func(l []string) { asMeant(t, append(words(first), l...)) })
		}
	}
}

// Pulses of all short steps, and one behind another.
func TestPulsesAreReadAsMeant(t *testing.T) {
	each([]string{"0", "1", "2", "00"}, 5, func(l []string) { asMeant(t, append(words("v1 a b pulse 1 2"), l...)) })
}

func TestRandomLinesAreReadAsMeant(t *testing.T) {
	var count [256]int
	d := dice(71)
	for range 60000 {
		count[asMeant(t, d.cardLine())]++
	}
	for err, least := range map[api.Errno]int{api.OK: 5000, api.ErrCard: 5000, api.ErrName: 2000, api.ErrText: 2000, api.ErrNum: 500, api.ErrZero: 100, api.ErrWave: 500} {
		if count[err] < least {
			t.Errorf("only %d lines of cards with error %d", count[err], err)
		}
	}
	clear(count[:])
	for range 20000 {
		l := d.line(modelRows())
		count[asMeant(t, l)]++
	}
	for err, least := range map[api.Errno]int{api.OK: 1000, api.ErrCard: 1000, api.ErrName: 300, api.ErrText: 300, api.ErrNum: 300, api.ErrModel: 300} {
		if count[err] < least {
			t.Errorf("only %d lines of models with error %d", count[err], err)
		}
	}
}

// P7.2: what is written is read as the same.
func TestRightCardsThereAndBack(t *testing.T) {
	d := dice(72)
	for range 20000 {
		c := d.card()
		l, err := card.Write(c)
		line, ok := meantLine(c)
		if err != api.OK || !ok || strings.Join(l, " ") != line {
			t.Fatalf("Write(%v): %q with error %d, not %s", c, l, err, line)
		}
		back, err := card.Read(l)
		if err != api.OK || !sameCard(back, c) {
			t.Fatalf("%v is written %q and read %v with error %d", c, l, back, err)
		}
	}
}

// P7.2: what is read is written, in its one form, and read as the same.
func TestReadLinesThereAndBack(t *testing.T) {
	d := dice(73)
	count := 0
	for range 40000 {
		l := d.cardLine()
		c, err := card.Read(l)
		if err != api.OK {
			continue
		}
		count++
		out, err := card.Write(c)
		back, backErr := card.Read(out)
		if err != api.OK || backErr != api.OK || !sameCard(back, c) {
			t.Fatalf("%q is read %v, written %q with error %d, and read %v with error %d", l, c, out, err, back, backErr)
		}
		if again, _ := card.Write(back); !slices.Equal(again, out) {
			t.Fatalf("%v is written %q and %q", c, out, again)
		}
		checkCard(t, c)
	}
	if count < 5000 {
		t.Error("only", count, "lines were read")
	}
}

// checkCard fails unless what Read tells is as the chapter says a card is.
func checkCard(t *testing.T, c api.Card) {
	t.Helper()
	kind := c.Name[:1]
	if !card.Device(c.Name) || slices.ContainsFunc(c.Nodes, func(s string) bool { return !card.Name(s) }) || !num.Valid(c.Value) {
		t.Fatalf("%v", c)
	}
	if strings.Contains("fhdsx", kind) != (c.Ref != "") || strings.Contains("vi", kind) != wave.Valid(c.Wave) || strings.Contains("vidsx", kind) && c.Value != (api.Num{}) {
		t.Fatalf("%v", c)
	}
}

// P7.2, of models.
func TestModelsThereAndBack(t *testing.T) {
	d := dice(74)
	for range 20000 {
		m := d.model()
		l, err := card.WriteModel(m)
		back, backErr := card.ReadModel(l)
		if err != api.OK || backErr != api.OK || !sameModel(back, m) {
			t.Fatalf("%v is written %q with error %d and read %v with error %d", m, l, err, back, backErr)
		}
		for i, x := range m.G {
			if s, _ := num.Text(x); l[3+2*i] != s {
				t.Fatalf("%v is written %q", m, l)
			}
		}
		for i, x := range m.V {
			if s, _ := num.Text(x); l[4+2*i] != s {
				t.Fatalf("%v is written %q", m, l)
			}
		}
	}
	for range 20000 {
		l := d.line(modelRows())
		m, err := card.ReadModel(l)
		if err != api.OK {
			continue
		}
		out, err := card.WriteModel(m)
		back, backErr := card.ReadModel(out)
		if err != api.OK || backErr != api.OK || !sameModel(back, m) || !model.Valid(m) {
			t.Fatalf("%q is read %v, written %q with error %d, and read %v with error %d", l, m, out, err, back, backErr)
		}
	}
}

// spoil is a card with one of its fields another than it was; it may be right still.
func (d *dice) spoil(c api.Card) api.Card {
	c.Nodes, c.Wave.Vals, c.Wave.Steps = slices.Clone(c.Nodes), slices.Clone(c.Wave.Vals), slices.Clone(c.Wave.Steps)
	switch d.below(9) {
	case 0:
		c.Name = d.of("", "r", "v1", "x1", "q", "d1", "s1", "t1", "f1", "R", strings.Repeat("r", 17))
	case 1:
		c.Nodes = append(c.Nodes, d.of("a", "0", "dc", "1"))
	case 2:
		c.Nodes = c.Nodes[:len(c.Nodes)-1]
	case 3:
		c.Nodes[d.below(len(c.Nodes))] = d.of("", "A", "a b", "a", "0", strings.Repeat("a", 17))
	case 4:
		c.Ref = d.of("", "v1", "r1", "a", "A", "5")
	case 5:
		c.Value = []api.Num{{}, n(1, 0), n(10, 0), n(0, 1), n(1, 10)}[d.below(5)]
	case 6:
		c.Wave.Kind = d.below(6)
	case 7:
		c.Wave.Vals = append(c.Wave.Vals, n(int64(1+d.below(10)), 0))[d.below(2):]
	case 8:
		c.Wave.Steps = append(c.Wave.Steps, d.step())[d.below(2):]
	}
	return c
}

// Write takes right cards, and no others.
func TestSpoiledCardsAreWrittenAsMeant(t *testing.T) {
	d := dice(75)
	rights, wrongs := 0, 0
	for range 60000 {
		c := d.spoil(d.card())
		for d.below(3) == 0 && len(c.Nodes) > 0 {
			c = d.spoil(c)
		}
		line, ok := meantLine(c)
		l, err := card.Write(c)
		switch {
		case ok && (err != api.OK || strings.Join(l, " ") != line):
			t.Fatalf("Write(%v): %q with error %d, not %s", c, l, err, line)
		case !ok && (err != api.ErrCard || len(l) != 0):
			t.Fatalf("Write(%v): %q with error %d", c, l, err)
		case ok:
			rights++
		default:
			wrongs++
		}
	}
	if rights < 2000 || wrongs < 10000 {
		t.Error(rights, "right cards and", wrongs, "others")
	}
}

// Names are asked as the words say, and devices' names are names with a kind.
func TestRandomNames(t *testing.T) {
	d := dice(76)
	for range 20000 {
		s := d.name() + d.of("", "", "A", ".", strconv.Itoa(d.below(100)), "\x00", "é", " ")
		if card.Name(s) != aName.MatchString(s) || card.Device(s) != aDevice.MatchString(s) {
			t.Fatalf("Name(%q): %v, Device: %v", s, card.Name(s), card.Device(s))
		}
	}
}
