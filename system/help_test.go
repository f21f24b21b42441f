package system_test

import (
	"fmt"
	"slices"
	"strconv"
	"strings"
	"testing"

	"shunt/api"
	"shunt/card"
	"shunt/flat"
	"shunt/limb"
	"shunt/netlist"
	"shunt/num"
	"shunt/system"
)

const allKinds = "rclviegfhtds"

const most = api.MaxGrid

func n(mant int64, exp int) api.Num { return api.Num{Mant: mant, Exp: exp} }

// number is that of a text.
func number(text string) api.Num {
	x, err := num.Parse(text)
	if err != api.OK {
		panic(text)
	}
	return x
}

// count are so many lines of the form, in which # stands for the line's number.
func count(form string, from, to int) string {
	var l []string
	for i := from; i <= to; i++ {
		l = append(l, strings.ReplaceAll(form, "#", strconv.Itoa(i)))
	}
	return strings.Join(l, " / ")
}

// laid is the flat circuit of a netlist's lines, parted by strokes with blanks around them.
func laid(lines string) api.Flat {
	c, at, err := netlist.Parse(strings.ReplaceAll(lines, " / ", "\n"))
	if err != api.OK {
		panic(fmt.Sprint(lines, at, err))
	}
	f, err := flat.Flatten(c)
	if err != api.OK {
		panic(fmt.Sprint(lines, err))
	}
	return f
}

// ends are how many nodes a device of that kind has.
func ends(kind byte) int {
	if strings.IndexByte("egts", kind) >= 0 {
		return 4
	}
	return 2
}

// dev is the device of a line: its kind, its name, its nodes' numbers, and a value, a wave, a Ref and a value, or a model.
func dev(line string) api.Dev {
	w := strings.Fields(line)
	d := api.Dev{Kind: w[0][0], Name: w[1]}
	words := []string{w[0]}
	w = w[2:]
	for range ends(d.Kind) {
		node, _ := strconv.Atoi(w[0])
		d.Nodes, words, w = append(d.Nodes, node), append(words, "0"), w[1:]
	}
	if strings.Contains("ds", words[0]) {
		m, err := card.ReadModel(append([]string{".model"}, w...))
		if err != api.OK {
			panic(line)
		}
		d.Model = m
		return d
	}
	if strings.Contains("fh", words[0]) {
		d.Ref, _ = strconv.Atoi(w[0])
		words, w = append(words, "v"), w[1:]
	}
	c, err := card.Read(append(words, w...))
	if err != api.OK {
		panic(line)
	}
	d.Value, d.Wave = c.Value, c.Wave
	return d
}

// hand is a flat circuit made by hand, of 1u and Euler: the names of its nodes, and lines of devices.
func hand(nodes string, lines ...string) api.Flat {
	f := api.Flat{Nodes: strings.Fields(nodes), Step: n(1, -6), Method: api.Euler}
	for _, s := range lines {
		f.Devs = append(f.Devs, dev(s))
	}
	return f
}

// with is f with one device more.
func with(f api.Flat, line string) api.Flat {
	f.Devs = append(slices.Clone(f.Devs), dev(line))
	return f
}

func rest() api.Setting { return api.Setting{Mode: api.Op} }

func euler(step string) api.Setting {
	return api.Setting{Mode: api.Tran, Method: api.Euler, Step: number(step)}
}

func trap(step string) api.Setting {
	return api.Setting{Mode: api.Tran, Method: api.Trap, Step: number(step)}
}

// settings are some right ones, of both modes and both methods.
func settings() []api.Setting {
	return []api.Setting{rest(), euler("1"), trap("1"), euler("3u"), trap("7m"), {Mode: api.Op, Method: api.Trap, Step: n(1, -3)}}
}

// limbs are so many of them, all full.
func limbs(count int) api.Int { return api.Int{Limbs: slices.Repeat([]uint32{1<<32 - 1}, count)} }

// power is 2 to the power 32 times so many limbs: it has one more.
func power(limbs int) api.Int { return api.Int{Limbs: append(make([]uint32, limbs), 1)} }

// minus is a with its sign turned.
func minus(a api.Int) api.Int {
	return api.Int{Neg: !a.Neg && len(a.Limbs) > 0, Limbs: slices.Clone(a.Limbs)}
}

// told is a whole number as a text; one that isn't right is told by how it begins.
func told(a api.Int) string {
	text, err := limb.Text(a)
	if err != api.OK {
		return fmt.Sprint("?", a.Neg, len(a.Limbs), a.Limbs[:min(2, len(a.Limbs))])
	}
	return text
}

// whole is the whole number of a text.
func whole(text string) api.Int {
	a, err := limb.Parse(text)
	if err != api.OK {
		panic(text)
	}
	return a
}

func cellsText(name string, cells []api.Cell) string {
	text := ""
	for _, c := range cells[:min(100, len(cells))] {
		text += " " + strconv.Itoa(c.Col) + ":" + told(c.Val)
	}
	if text == "" {
		return ""
	}
	return " " + name + text
}

func rowText(row api.Row) string {
	text := told(row.Mult) + cellsText("A", row.A) + cellsText("H", row.H) + cellsText("S", row.S)
	if k := told(row.K); k != "0" {
		text += " K " + k
	}
	return text
}

// text is a system as a text: of each row Mult, and what there is of A, H and S, and K, if it isn't 0, as in
// 1000 A 0:1 1:-1 H 0:1 S 3:1 K 5. Rows are parted by strokes.
func text(s api.System) string {
	var rows []string
	for _, row := range s.Rows[:min(100, len(s.Rows))] {
		rows = append(rows, rowText(row))
	}
	return strings.Join(rows, " / ")
}

func rowOf(text string) api.Row {
	words := strings.Fields(text)
	row := api.Row{Mult: whole(words[0])}
	lists := map[string]*[]api.Cell{"A": &row.A, "H": &row.H, "S": &row.S}
	list := &row.A
	for i, word := range words[1:] {
		if col, val, both := strings.Cut(word, ":"); both {
			at, _ := strconv.Atoi(col)
			*list = append(*list, api.Cell{Col: at, Val: whole(val)})
		} else if word == "K" {
			row.K = whole(words[i+2])
			break
		} else {
			list = lists[word]
		}
	}
	return row
}

// of is the system of a text.
func of(text string) api.System {
	var s api.System
	if text == "" {
		return s
	}
	for _, row := range strings.Split(text, " / ") {
		s.Rows = append(s.Rows, rowOf(row))
	}
	return s
}

// list are whole numbers as a text.
func list(l []api.Int) string {
	var parts []string
	for _, a := range l {
		parts = append(parts, told(a))
	}
	return strings.Join(parts, " ")
}

// short is what is told in a failure, cut where it is too long.
func short(x any) string {
	text := fmt.Sprint(x)
	if len(text) > 900 {
		return text[:900] + ".."
	}
	return text
}

// buildIs fails unless Build answers just this system.
func buildIs(t *testing.T, f api.Flat, s api.Setting, segs []int, want string) {
	t.Helper()
	if got, err := system.Build(f, s, segs); err != api.OK || text(got) != want {
		t.Errorf("%s: Build %v, %v: %s with error %d, not %s", short(f), s, segs, short(text(got)), err, short(want))
	}
}

// rhsIs fails unless Rhs answers just these numbers.
func rhsIs(t *testing.T, s api.System, prev, src []int64, want string) {
	t.Helper()
	if got, err := system.Rhs(s, prev, src); err != api.OK || list(got) != want {
		t.Errorf("%s: Rhs %v, %v: %s with error %d, not %s", short(text(s)), prev, src, short(list(got)), err, short(want))
	}
}

// sourcesAre fails unless Sources answers just these numbers.
func sourcesAre(t *testing.T, f api.Flat, step int, want ...int64) {
	t.Helper()
	if got, err := system.Sources(f, step); err != api.OK || !slices.Equal(got, want) {
		t.Errorf("%s: Sources %d: %v with error %d, not %v", short(f), step, got, err, want)
	}
}

// bentAre fails unless Bent answers just these places.
func bentAre(t *testing.T, f api.Flat, want ...int) {
	t.Helper()
	if got := system.Bent(f); !slices.Equal(got, want) {
		t.Errorf("%s: Bent: %v, not %v", short(f), got, want)
	}
}

// checks fails unless Check answers that.
func checks(t *testing.T, s api.System, want api.Errno) {
	t.Helper()
	if err := system.Check(s); err != want {
		t.Errorf("%s: Check: error %d, not %d", short(text(s)), err, want)
	}
}

// refuses fails unless Build answers that error, and nothing else.
func refuses(t *testing.T, f api.Flat, s api.Setting, segs []int, want api.Errno) {
	t.Helper()
	if got, err := system.Build(f, s, segs); err != want || len(got.Rows) != 0 {
		t.Errorf("%s: Build %v, %s: %s with error %d, not error %d", short(f), s, short(segs), short(text(got)), err, want)
	}
}

// refusesRhs fails unless Rhs answers that error, and nothing else.
func refusesRhs(t *testing.T, s api.System, prev, src []int64, want api.Errno) {
	t.Helper()
	if got, err := system.Rhs(s, prev, src); err != want || len(got) != 0 {
		t.Errorf("%s: Rhs %s, %s: %s with error %d, not error %d", short(text(s)), short(prev), short(src), short(list(got)), err, want)
	}
}

// refusesSources fails unless Sources answers that error, and nothing else.
func refusesSources(t *testing.T, f api.Flat, step int, want api.Errno) {
	t.Helper()
	if got, err := system.Sources(f, step); err != want || len(got) != 0 {
		t.Errorf("%s: Sources %d: %v with error %d, not error %d", short(f), step, got, err, want)
	}
}
