package netlist_test

import (
	"slices"
	"strconv"
	"strings"
	"testing"

	"shunt/api"
	"shunt/netlist"
)

// asMeant fails unless Parse answers what the chapter says, and tells the error.
func asMeant(t *testing.T, text string) api.Errno {
	t.Helper()
	got, want := tell(text), meant(text)
	if !got.is(want) {
		t.Fatalf("%q: %s, not %s", text, short(got), short(want))
	}
	return got.err
}

// checkedAsMeant fails unless Check and Print answer what the chapter says, and tells Check's error.
func checkedAsMeant(t *testing.T, c api.Circuit) api.Errno {
	t.Helper()
	want := meantCheck(c)
	if err := netlist.Check(c); err != want {
		t.Fatalf("Check(%v): error %d, not %d", c, err, want)
	}
	text, printed := "", want
	if want == api.OK {
		text = meantText(c)
	}
	if len(text) > api.MaxText {
		text, printed = "", api.ErrLong
	}
	if got, err := netlist.Print(c); got != text || err != printed {
		t.Fatalf("Print(%v): %q with error %d, not %q with error %d", c, short(got), err, short(text), printed)
	}
	return want
}

// enough fails unless each of the errors was met as often as it is to be.
func enough(t *testing.T, got map[api.Errno]int, least map[api.Errno]int) {
	t.Helper()
	for err, times := range least {
		if got[err] < times {
			t.Errorf("error %d was met only %d times", err, got[err])
		}
	}
}

// P8.2: what is printed of a right circuit is read as that circuit.
func TestRightCircuitsThereAndBack(t *testing.T) {
	d := dice(81)
	long := 0
	for range 3000 {
		c := d.circuit()
		if err := checkedAsMeant(t, c); err != api.OK {
			t.Fatalf("%v: error %d", c, err)
		}
		text, err := netlist.Print(c)
		if err == api.ErrLong {
			long++
			continue
		}
		if back := tell(text); !back.is(told{c: c}) {
			t.Fatalf("%v is printed %q and read %s", c, text, short(back))
		}
	}
	if long > 100 {
		t.Error(long, "circuits were too long")
	}
}

// P8.2: what is read is right, and what is printed of it is read as the same, and printed as the same.
func TestReadTextsThereAndBack(t *testing.T) {
	d := dice(82)
	for range 2000 {
		c := d.circuit()
		if len(meantText(c)) > api.MaxText/2 {
			continue
		}
		text := d.dressed(d.lines(c))
		got := tell(text)
		if !got.is(told{c: c}) {
			t.Fatalf("%q: %s, not %v", text, short(got), c)
		}
		if err := checkedAsMeant(t, got.c); err != api.OK {
			t.Fatalf("%q: what is read isn't right, error %d", text, err)
		}
		printed, _ := netlist.Print(got.c)
		back := tell(printed)
		if !back.is(got) {
			t.Fatalf("%q is read, printed %q and read %s", text, printed, short(back))
		}
		if again, err := netlist.Print(back.c); again != printed || err != api.OK {
			t.Fatalf("%q is printed %q, and behind that %q", text, printed, again)
		}
	}
}

// Every text of a few lines, of all the kinds of lines that matter to one another.
func TestShortTextsAreReadAsMeant(t *testing.T) {
	from := []string{
		".step 1", ".step 0", ".method trap", ".model m d 1", ".model m s 1 2 3", ".subckt s a", ".subckt q a b", ".subckt s 0", ".ends", ".ends x", ".end", ".foo",
		"r1 a 0 1", "r1 a 0 0", "v1 a 0 1", "f1 a 0 v1 1", "d1 a 0 m", "s1 a 0 a 0 m", "x1 a s", "x2 a q", "",
	}
	got := map[api.Errno]int{}
	for _, a := range from {
		for _, b := range from {
			for _, c := range from {
				got[asMeant(t, a+"\n"+b+"\n"+c)]++
				for _, e := range from {
					got[asMeant(t, a+"\n"+b+"\n"+c+"\n"+e)]++
				}
			}
		}
	}
	few := []string{".subckt s a", ".subckt q a b", ".ends", "v1 a 0 1", "h1 a 0 v1 1", "x1 a s", "x2 a s", "x3 a q"}
	var grow func(lines []string)
	grow = func(lines []string) {
		got[asMeant(t, strings.Join(lines, "\n"))]++
		if len(lines) < 6 {
			for _, s := range few {
				grow(append(slices.Clone(lines), s))
			}
		}
	}
	grow(nil)
	enough(t, got, map[api.Errno]int{
		api.OK: 3000, api.ErrOrder: 5000, api.ErrCard: 5000, api.ErrArg: 1000, api.ErrTwice: 5000, api.ErrName: 1000, api.ErrZero: 1000, api.ErrRef: 5000, api.ErrPorts: 100,
	})
}

func TestRandomTextsAreReadAsMeant(t *testing.T) {
	d := dice(83)
	got := map[api.Errno]int{}
	for range 12000 {
		c := d.circuit()
		if len(meantText(c)) > 4000 {
			continue
		}
		got[asMeant(t, d.dressed(d.spoiled(d.lines(c))))]++
	}
	enough(t, got, map[api.Errno]int{
		api.OK: 500, api.ErrOrder: 500, api.ErrCard: 500, api.ErrText: 30, api.ErrNum: 5, api.ErrArg: 30, api.ErrTwice: 300, api.ErrName: 50, api.ErrZero: 5, api.ErrRef: 100, api.ErrPorts: 100,
	})
}

// Texts that are as full as they may be, or a little fuller.
func TestFullTextsAreReadAsMeant(t *testing.T) {
	d := dice(84)
	got := map[api.Errno]int{}
	for range 150 {
		var l []string
		for i := range 15 + d.below(3) {
			l = append(l, ".model m"+strconv.Itoa(i)+" d 1")
		}
		for i := range 7 + d.below(3) {
			l = append(l, ".subckt s"+strconv.Itoa(i)+" a")
			if d.one(3) {
				l = append(l, strings.Split(rows(count("r# a 0 1", 1, 63+d.below(3))), "\n")...)
			}
			l = append(l, ".ends")
		}
		l = append(l, strings.Split(rows(count("c# a 0 1", 1, 63+d.below(3))), "\n")...)
		if d.one(3) {
			l = d.spoiled(l)
		}
		got[asMeant(t, strings.Join(l, "\n"))]++
	}
	enough(t, got, map[api.Errno]int{api.OK: 5, api.ErrMany: 50})
}

// spoil is the circuit with one thing another than it was; it may be right still.
func (d *dice) spoil(c api.Circuit) api.Circuit {
	c = copied(c)
	in := d.below(len(c.Subs) + 1)
	list := &c.Cards
	if in < len(c.Subs) {
		list = &c.Subs[in].Cards
		d.spoilSub(&c.Subs[in], c.Subs)
	}
	if len(*list) > 0 && d.one(2) {
		k := d.below(len(*list))
		switch x := &(*list)[k]; d.below(6) {
		case 0:
			x.Name = d.of("", "r1", "v1", "x", "q", "d1", "s1", (*list)[0].Name)
		case 1:
			x.Nodes = append(x.Nodes, d.of("a", "0", "A"))
		case 2:
			x.Nodes = x.Nodes[:max(0, len(x.Nodes)-1)]
		case 3, 4:
			x.Ref = d.of("", "v0", "v1", "a", "a1", "!", d.names(1)[0])
		case 5:
			x.Value = []api.Num{{}, n(1, 0), n(10, 0)}[d.below(3)]
		}
	}
	switch d.below(12) {
	case 0:
		c.Step = []api.Num{{}, n(-1, 0), n(10, 0), n(1, 10), n(1, 9)}[d.below(5)]
	case 1:
		c.Method = d.below(4)
	case 2:
		c.Models = append(c.Models, d.model(d.of("a", "a1", "", "A", d.names(1)[0])))
	case 3:
		if len(c.Models) > 0 {
			k := d.below(len(c.Models))
			c.Models[k].Kind = "ds\x00"[d.below(3)]
			c.Models = append(c.Models, c.Models[d.below(len(c.Models))])[d.below(2):]
		}
	case 4:
		if len(c.Subs) > 1 {
			k, l := d.below(len(c.Subs)), d.below(len(c.Subs))
			c.Subs[k], c.Subs[l] = c.Subs[l], c.Subs[k]
		}
	}
	return c
}

func (d *dice) spoilSub(s *api.Sub, all []api.Sub) {
	switch d.below(12) {
	case 0:
		s.Name = d.of("", "a", "A", "0", all[0].Name)
	case 1:
		s.Ports = append(s.Ports, d.of("0", "00", "a", "b", "A", s.Ports[0]))
	case 2:
		s.Ports = s.Ports[1:]
	case 3:
		s.Cards = append(s.Cards, s.Cards...)
	case 4:
		s.Cards = append(s.Cards, api.Card{Name: "x99", Nodes: d.nodes(len(s.Ports)), Ref: s.Name})
	}
}

// Check takes right circuits, and no others.
func TestSpoiledCircuitsAreCheckedAsMeant(t *testing.T) {
	d := dice(85)
	got := map[api.Errno]int{}
	for range 10000 {
		c := d.spoil(d.circuit())
		for d.one(3) && !slices.ContainsFunc(c.Subs, func(s api.Sub) bool { return len(s.Ports) == 0 }) {
			c = d.spoil(c)
		}
		got[checkedAsMeant(t, c)]++
	}
	enough(t, got, map[api.Errno]int{
		api.OK: 1000, api.ErrArg: 500, api.ErrModel: 300, api.ErrCard: 1000, api.ErrMany: 20, api.ErrTwice: 100, api.ErrRef: 100, api.ErrPorts: 50,
	})
}

// The order of the lines matters to no list but its own: the same cards are read, wherever the other lines stand.
func TestOtherListsHaveNoSay(t *testing.T) {
	d := dice(86)
	for range 300 {
		c := d.circuit()
		if len(meantText(c)) > 20000 {
			continue
		}
		a, b := d.lines(c), d.lines(c)
		x, y := tell(strings.Join(a, "\n")), tell(strings.Join(b, "\n"))
		if !x.is(told{c: c}) || !y.is(x) {
			t.Fatalf("%q and %q: %s and %s", a, b, short(x), short(y))
		}
	}
}

// Texts of any bytes, and netlists with any bytes in them: none panics.
func TestTextsOfAnyBytes(t *testing.T) {
	d := dice(89)
	for range 3000 {
		b := make([]byte, d.below(60))
		for i := range b {
			b[i] = byte(d.below(256))
		}
		asMeant(t, string(b))
		b = []byte(d.dressed(d.spoiled(strings.Split(rows(div+" / x1 a b div / .model m d 1 / d1 a 0 m / .step 1 / .end"), "\n"))))
		for range d.below(4) {
			b[d.below(len(b))] = []byte("\n\n +;*.0ax\x00\xff")[d.below(12)]
		}
		asMeant(t, string(b))
	}
}
