package pwl_test

import (
	"fmt"
	"slices"
	"strconv"
	"strings"

	"shunt/api"
	"shunt/bareiss"
	"shunt/flat"
	"shunt/limb"
	"shunt/num"
	"shunt/plan"
	"shunt/pwl"
	"shunt/rat"
	"shunt/stamp"
	"shunt/system"
)

// What the chapter says of a step, reckoned in fractions: the equations are the stamps of layer 11, laid and solved here, and
// segments are told by the values of V themselves.

func ratio(a, b int64) api.Rat {
	r, err := rat.Make(limb.Of(a), limb.Of(b))
	return must(r, err)
}

func must(r api.Rat, err api.Errno) api.Rat {
	if err != api.OK {
		panic(err)
	}
	return r
}

func plus(a, b api.Rat) api.Rat    { return must(rat.Add(a, b)) }
func less(a, b api.Rat) api.Rat    { return must(rat.Sub(a, b)) }
func times(a, b api.Rat) api.Rat   { return must(rat.Mul(a, b)) }
func divided(a, b api.Rat) api.Rat { return must(rat.Div(a, b)) }
func isNought(a api.Rat) bool      { return len(a.Num.Limbs) == 0 }
func valueOf(x api.Num) api.Rat    { return must(num.Value(x)) }
func inUnits(x api.Num) api.Rat    { return times(valueOf(x), ratio(1000000000, 1)) }
func rationally(x []int64) []api.Rat {
	var l []api.Rat
	for _, a := range x {
		l = append(l, ratio(a, 1))
	}
	return l
}

// compared is how a stands to b.
func compared(a, b api.Rat) int {
	c, err := rat.Cmp(a, b)
	if err != api.OK {
		panic(err)
	}
	return c
}

// equations are the rows of f's at a choice, the right side in the last column.
func equations(f api.Flat, s api.Setting, choice []int, a plan.Ask) [][]api.Rat {
	count := unknowns(f)
	rows := make([][]api.Rat, count)
	for i := range rows {
		rows[i] = slices.Repeat([]api.Rat{ratio(0, 1)}, count+1)
	}
	prev, src := rationally(a.Prev), rationally(a.Src)
	for k := range f.Devs {
		l, err := stamp.Of(f, k, s, segOf(f, choice, k))
		if err != api.OK {
			panic(err)
		}
		for _, x := range l {
			col, share := count, x.Val
			switch x.Kind {
			case api.StampA:
				col = x.Col
			case api.StampH:
				share = times(share, prev[x.Col])
			case api.StampS:
				share = times(share, src[x.Col])
			}
			rows[x.Row][col] = plus(rows[x.Row][col], share)
		}
	}
	return rows
}

// segOf is the segment of the device at the place k, 0 of such that have none.
func segOf(f api.Flat, choice []int, k int) int {
	if at := slices.Index(system.Bent(f), k); at >= 0 {
		return choice[at]
	}
	return 0
}

// solved are the unknowns of the rows; false, if they have no one solution.
func solved(rows [][]api.Rat) ([]api.Rat, bool) {
	for k := range rows {
		pivot := slices.IndexFunc(rows[k:], func(row []api.Rat) bool { return !isNought(row[k]) })
		if pivot < 0 {
			return nil, false
		}
		rows[k], rows[k+pivot] = rows[k+pivot], rows[k]
		for i := range rows {
			if i == k || isNought(rows[i][k]) {
				continue
			}
			by := divided(rows[i][k], rows[k][k])
			for j := range rows[i] {
				rows[i][j] = less(rows[i][j], times(rows[k][j], by))
			}
		}
	}
	var x []api.Rat
	for k, row := range rows {
		x = append(x, divided(row[len(rows)], row[k]))
	}
	return x, true
}

// looked is what a bent device looks at.
func looked(d api.Dev, x []api.Rat) api.Rat {
	at := func(node int) api.Rat {
		if node == 0 {
			return ratio(0, 1)
		}
		return x[node-1]
	}
	if d.Kind == 's' {
		return less(at(d.Nodes[2]), at(d.Nodes[3]))
	}
	return less(at(d.Nodes[0]), at(d.Nodes[1]))
}

// behind is the choice behind one, by the ends of each segment.
func behind(f api.Flat, choice []int, x []api.Rat) []int {
	var next []int
	for i, k := range system.Bent(f) {
		d, seg := f.Devs[k], choice[i]
		u := looked(d, x)
		if seg > 0 && compared(u, inUnits(d.Model.V[seg-1])) < 0 {
			seg--
		} else if seg < len(d.Model.V) && compared(u, inUnits(d.Model.V[seg])) > 0 {
			seg++
		}
		next = append(next, seg)
	}
	return next
}

// meant is what Step says of a right call, as a text, where nothing is wide.
func meant(f api.Flat, s api.Setting, iter int, choice []int, a plan.Ask) string {
	for tries := 1; tries <= iter; tries++ {
		x, one := solved(equations(f, s, choice, a))
		if !one {
			return "error 140"
		}
		next := behind(f, choice, x)
		if slices.Equal(next, choice) {
			var words []string
			for _, r := range x {
				words = append(words, fraction(r.Num, r.Den))
			}
			return strings.Join(append(words, fmt.Sprint(choice), strconv.Itoa(tries)), " ")
		}
		choice = next
	}
	return "error 160"
}

// A ledger is what a solver must have counted, of plans that are all made anew.
type ledger struct {
	f      api.Flat
	s      api.Setting
	o      api.Options
	kept   bool
	choice []int
	counts api.Counts
}

// step is what Step answers, by the layers below alone; it is counted.
func (l *ledger) step(segs []int, a plan.Ask) (pwl.Found, api.Errno) {
	if len(segs) != len(system.Bent(l.f)) {
		return pwl.Found{}, api.ErrSeg
	}
	if len(a.Prev) != unknowns(l.f) || len(a.Src) != len(l.f.Devs) {
		return pwl.Found{}, api.ErrSize
	}
	if slices.Contains(a.Src, edge+1) {
		return pwl.Found{}, api.ErrRange
	}
	choice := slices.Clone(segs)
	for tries := 1; tries <= l.o.Iter; tries++ {
		x, err := l.solve(choice, a)
		if err != api.OK {
			return pwl.Found{}, err
		}
		var exact []api.Rat
		for _, b := range x.X {
			exact = append(exact, must(rat.Make(b, x.D)))
		}
		next := behind(l.f, choice, exact)
		if slices.Equal(next, choice) {
			return pwl.Found{Solution: x, Segs: choice, Tries: tries}, api.OK
		}
		choice = next
	}
	return pwl.Found{}, api.ErrNoSegment
}

func (l *ledger) solve(choice []int, a plan.Ask) (api.Solution, api.Errno) {
	equations, err := system.Build(l.f, l.s, choice)
	if err != api.OK {
		panic(err)
	}
	var rows [][]api.Cell
	for _, row := range equations.Rows {
		rows = append(rows, row.A)
	}
	_, pivots, err := bareiss.New(rows, l.o.Limbs)
	if !l.kept || !slices.Equal(choice, l.choice) {
		l.kept, l.choice = true, choice
		l.counts.Factors++
		l.counts.Pivots += int64(pivots)
	}
	if err == api.OK {
		l.counts.Solves++
	}
	p, err := plan.New(equations, l.o.Limbs)
	if err != api.OK {
		panic(err)
	}
	return p.Solve(a)
}

// currentOf is the current of a device by the chapters' words, kind by kind.
func currentOf(f api.Flat, k, seg int, x []api.Rat, src []int64) api.Rat {
	d := f.Devs[k]
	volts := func(a, b int) api.Rat {
		return looked(api.Dev{Nodes: []int{a, b}}, x)
	}
	_, branches := flat.Unknowns(f)
	switch d.Kind {
	case 'r':
		return divided(volts(d.Nodes[0], d.Nodes[1]), valueOf(d.Value))
	case 'g':
		return times(volts(d.Nodes[2], d.Nodes[3]), valueOf(d.Value))
	case 'i':
		return ratio(src[k], 1)
	case 'f':
		return times(x[branches[d.Ref]], valueOf(d.Value))
	case 's':
		return times(volts(d.Nodes[0], d.Nodes[1]), valueOf(d.Model.G[seg]))
	case 'd':
		own := ratio(0, 1)
		for i := range seg {
			own = plus(own, times(less(valueOf(d.Model.G[i]), valueOf(d.Model.G[i+1])), inUnits(d.Model.V[i])))
		}
		return plus(own, times(volts(d.Nodes[0], d.Nodes[1]), valueOf(d.Model.G[seg])))
	}
	return x[branches[k]]
}

// nearest is r rounded to the nearest whole number, of two to the even one; and whether it is on the grid.
func nearest(r api.Rat) (int64, bool) {
	if compared(r, ratio(edge+1, 1)) >= 0 || compared(r, ratio(-edge-1, 1)) <= 0 {
		return 0, false
	}
	quotient, _, err := limb.QuoRem(r.Num, r.Den)
	if err != api.OK {
		panic(err)
	}
	at, _ := limb.Int64(quotient)
	best := at
	for _, x := range []int64{at - 1, at, at + 1} {
		off, least := away(r, x), away(r, best)
		if c := compared(off, least); c < 0 || c == 0 && x%2 == 0 {
			best = x
		}
	}
	return best, -edge <= best && best <= edge
}

// away is how far r is from x.
func away(r api.Rat, x int64) api.Rat {
	off := less(r, ratio(x, 1))
	off.Num.Neg = false
	return off
}

// meantReport is what Report says of right arguments, as a text.
func meantReport(f api.Flat, segs []int, x api.Solution, src []int64) string {
	var exact []api.Rat
	for _, a := range x.X {
		exact = append(exact, must(rat.Make(a, x.D)))
	}
	all := slices.Clone(exact)
	for k := range f.Devs {
		all = append(all, currentOf(f, k, segOf(f, segs, k), exact, src))
	}
	var list []int64
	for _, r := range all {
		near, on := nearest(r)
		if !on {
			return "error 4"
		}
		list = append(list, near)
	}
	return reportText(list[:len(exact)], list[len(exact):], api.OK)
}

// reportText is what Report answers.
func reportText(x, i []int64, err api.Errno) string {
	if err != api.OK && len(x)+len(i) == 0 {
		return "error " + strconv.Itoa(int(err))
	}
	return fmt.Sprint(x, i, err)
}
