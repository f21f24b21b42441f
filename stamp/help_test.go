package stamp_test

import (
	"fmt"
	"slices"
	"strconv"
	"strings"
	"testing"

	"shunt/api"
	"shunt/card"
	"shunt/flat"
	"shunt/limb"
	"shunt/netlist"
	"shunt/num"
	"shunt/rat"
	"shunt/stamp"
)

const allKinds = "rclviegfhtds"

func n(mant int64, exp int) api.Num { return api.Num{Mant: mant, Exp: exp} }

// number is that of a text.
func number(text string) api.Num {
	x, err := num.Parse(text)
	if err != api.OK {
		panic(text)
	}
	return x
}

// count are so many lines of the form, in which # stands for the line's number.
func count(form string, from, to int) string {
	var l []string
	for i := from; i <= to; i++ {
		l = append(l, strings.ReplaceAll(form, "#", strconv.Itoa(i)))
	}
	return strings.Join(l, " / ")
}

// laid is the flat circuit of a netlist's lines, parted by strokes with blanks around them.
func laid(lines string) api.Flat {
	c, at, err := netlist.Parse(strings.ReplaceAll(lines, " / ", "\n"))
	if err != api.OK {
		panic(fmt.Sprint(lines, at, err))
	}
	f, err := flat.Flatten(c)
	if err != api.OK {
		panic(fmt.Sprint(lines, err))
	}
	return f
}

// ends are how many nodes a device of that kind has.
func ends(kind byte) int {
	if strings.IndexByte("egts", kind) >= 0 {
		return 4
	}
	return 2
}

// dev is the device of a line: its kind, its name, its nodes' numbers, and a value, a wave, a Ref and a value, or a model.
func dev(line string) api.Dev {
	w := strings.Fields(line)
	d := api.Dev{Kind: w[0][0], Name: w[1]}
	words := []string{w[0]}
	w = w[2:]
	for range ends(d.Kind) {
		node, _ := strconv.Atoi(w[0])
		d.Nodes, words, w = append(d.Nodes, node), append(words, "0"), w[1:]
	}
	if strings.Contains("ds", words[0]) {
		m, err := card.ReadModel(append([]string{".model"}, w...))
		if err != api.OK {
			panic(line)
		}
		d.Model = m
		return d
	}
	if strings.Contains("fh", words[0]) {
		d.Ref, _ = strconv.Atoi(w[0])
		words, w = append(words, "v"), w[1:]
	}
	c, err := card.Read(append(words, w...))
	if err != api.OK {
		panic(line)
	}
	d.Value, d.Wave = c.Value, c.Wave
	return d
}

// hand is a flat circuit made by hand, of 1u and Euler: the names of its nodes, and lines of devices.
func hand(nodes string, lines ...string) api.Flat {
	f := api.Flat{Nodes: strings.Fields(nodes), Step: n(1, -6), Method: api.Euler}
	for _, s := range lines {
		f.Devs = append(f.Devs, dev(s))
	}
	return f
}

// with is f with one device more.
func with(f api.Flat, line string) api.Flat {
	f.Devs = append(slices.Clone(f.Devs), dev(line))
	return f
}

// place is where the device of that name stands.
func place(f api.Flat, name string) int {
	k, err := flat.Dev(f, name)
	if err != api.OK {
		panic(name)
	}
	return k
}

func rest() api.Setting { return api.Setting{Mode: api.Op} }

func euler(step string) api.Setting {
	return api.Setting{Mode: api.Tran, Method: api.Euler, Step: number(step)}
}

func trap(step string) api.Setting {
	return api.Setting{Mode: api.Tran, Method: api.Trap, Step: number(step)}
}

// settings are some right ones, of both modes and both methods.
func settings() []api.Setting {
	return []api.Setting{rest(), euler("1"), trap("1"), euler("3u"), trap("7m"), {Mode: api.Op, Method: api.Trap, Step: n(1, -3)}}
}

// fraction is a right one, of two whole numbers.
func fraction(top, bottom int64) api.Rat {
	r, err := rat.Make(limb.Of(top), limb.Of(bottom))
	if err != api.OK {
		panic(err)
	}
	return r
}

// value is a right number's.
func value(x api.Num) api.Rat {
	r, err := num.Value(x)
	if err != api.OK {
		panic(x)
	}
	return r
}

// told is a fraction as a text; one that isn't right is told as it lies there.
func told(r api.Rat) string {
	if err := rat.Check(r); err != api.OK {
		return fmt.Sprint("?", r)
	}
	top, _ := limb.Text(r.Num)
	bottom, _ := limb.Text(r.Den)
	if bottom == "1" {
		return top
	}
	return top + "/" + bottom
}

// letter is that of a kind of stamps.
func letter(kind int) string {
	if kind < 1 || kind > 4 {
		return "?" + strconv.Itoa(kind)
	}
	return []string{"A", "H", "S", "K"}[kind-1]
}

// text is a list of stamps as the chapter's examples write it: A 0 1 -1/1000.
func text(l []api.Stamp) string {
	var parts []string
	for _, x := range l {
		parts = append(parts, fmt.Sprint(letter(x.Kind), " ", x.Row, " ", x.Col, " ", told(x.Val)))
	}
	return strings.Join(parts, ", ")
}

// short is what is told in a failure, cut where it is too long.
func short(x any) string {
	text := fmt.Sprint(x)
	if len(text) > 900 {
		return text[:900] + ".."
	}
	return text
}

// ofIs fails unless Of answers just these stamps.
func ofIs(t *testing.T, f api.Flat, k int, s api.Setting, seg int, want string) {
	t.Helper()
	if l, err := stamp.Of(f, k, s, seg); err != api.OK || text(l) != want {
		t.Errorf("%s: Of %d, %v, %d: %s with error %d, not %s", short(f), k, s, seg, text(l), err, want)
	}
}

// currentIs fails unless Current answers just these stamps.
func currentIs(t *testing.T, f api.Flat, k, seg int, want string) {
	t.Helper()
	if l, err := stamp.Current(f, k, seg); err != api.OK || text(l) != want {
		t.Errorf("%s: Current %d, %d: %s with error %d, not %s", short(f), k, seg, text(l), err, want)
	}
}

// refuses fails unless Of answers that error, and nothing else.
func refuses(t *testing.T, f api.Flat, k int, s api.Setting, seg int, want api.Errno) {
	t.Helper()
	if l, err := stamp.Of(f, k, s, seg); err != want || len(l) != 0 {
		t.Errorf("%s: Of %d, %v, %d: %s with error %d, not error %d", short(f), k, s, seg, text(l), err, want)
	}
}

// refusesCurrent fails unless Current answers that error, and nothing else.
func refusesCurrent(t *testing.T, f api.Flat, k, seg int, want api.Errno) {
	t.Helper()
	if l, err := stamp.Current(f, k, seg); err != want || len(l) != 0 {
		t.Errorf("%s: Current %d, %d: %s with error %d, not error %d", short(f), k, seg, text(l), err, want)
	}
}
