package sweep_test

import (
	"slices"

	"shunt/api"
	"shunt/flat"
	"shunt/limb"
	"shunt/num"
	"shunt/plan"
	"shunt/pwl"
	"shunt/rat"
	"shunt/sweep"
	"shunt/system"
	"shunt/wave"
)

// What the chapter says of a range, without layer 16's solver: each choice is solved by a plan made anew, segments are told by
// the values of V, currents by each kind's words, and the nearest number is looked for.

func ratio(a, b int64) api.Rat {
	r, err := rat.Make(limb.Of(a), limb.Of(b))
	return must(r, err)
}

func must(r api.Rat, err api.Errno) api.Rat {
	if err != api.OK {
		panic(err)
	}
	return r
}

func plus(a, b api.Rat) api.Rat    { return must(rat.Add(a, b)) }
func less(a, b api.Rat) api.Rat    { return must(rat.Sub(a, b)) }
func times(a, b api.Rat) api.Rat   { return must(rat.Mul(a, b)) }
func divided(a, b api.Rat) api.Rat { return must(rat.Div(a, b)) }
func valueOf(x api.Num) api.Rat    { return must(num.Value(x)) }
func inUnits(x api.Num) api.Rat    { return times(valueOf(x), ratio(1000000000, 1)) }

// compared is how a stands to b.
func compared(a, b api.Rat) int {
	c, err := rat.Cmp(a, b)
	if err != api.OK {
		panic(err)
	}
	return c
}

// across is the voltage from one node to another.
func across(from, to int, x []api.Rat) api.Rat {
	at := func(node int) api.Rat {
		if node == 0 {
			return ratio(0, 1)
		}
		return x[node-1]
	}
	return less(at(from), at(to))
}

// looked is what a bent device looks at.
func looked(d api.Dev, x []api.Rat) api.Rat {
	if d.Kind == 's' {
		return across(d.Nodes[2], d.Nodes[3], x)
	}
	return across(d.Nodes[0], d.Nodes[1], x)
}

func isBent(d api.Dev) bool { return d.Kind == 'd' || d.Kind == 's' }

// behind is the choice behind one, by the ends of each segment.
func behind(f api.Flat, choice []int, x []api.Rat) []int {
	var next []int
	for _, d := range f.Devs {
		if !isBent(d) {
			continue
		}
		seg := choice[len(next)]
		if seg > 0 && compared(looked(d, x), inUnits(d.Model.V[seg-1])) < 0 {
			seg--
		} else if seg < len(d.Model.V) && compared(looked(d, x), inUnits(d.Model.V[seg])) > 0 {
			seg++
		}
		next = append(next, seg)
	}
	return next
}

// A ledger is what one solver must have counted, of plans that are all made anew.
type ledger struct {
	f      api.Flat
	limbs  int
	kept   bool
	choice []int
	counts api.Counts
}

// solve is the exact solution of a choice; it is counted.
func (l *ledger) solve(choice []int, src []int64) ([]api.Rat, api.Errno) {
	equations, err := system.Build(l.f, api.Setting{Mode: api.Op}, choice)
	if err != api.OK {
		panic(err)
	}
	p, err := plan.New(equations, l.limbs)
	if err != api.OK {
		panic(err)
	}
	solution, err := p.Solve(plan.Ask{Prev: make([]int64, unknowns(l.f)), Src: src})
	c := p.Counts()
	l.counts.Solves += c.Solves
	if !l.kept || !slices.Equal(choice, l.choice) {
		l.kept, l.choice = true, choice
		l.counts.Factors += c.Factors
		l.counts.Pivots += c.Pivots
	}
	var x []api.Rat
	for _, a := range solution.X {
		x = append(x, must(rat.Make(a, solution.D)))
	}
	return x, err
}

// step is the exact solution that holds, and its choice.
func (l *ledger) step(choice []int, src []int64, iter int) ([]api.Rat, []int, api.Errno) {
	for range iter {
		x, err := l.solve(choice, src)
		if err != api.OK {
			return nil, nil, err
		}
		next := behind(l.f, choice, x)
		if slices.Equal(next, choice) {
			return x, choice, api.OK
		}
		choice = next
	}
	return nil, nil, api.ErrNoSegment
}

// valuesMeant are a range's values, in whole numbers of any length; false where one isn't on the grid.
func valuesMeant(q sweep.Range) ([]int64, bool) {
	var list []int64
	for j := range q.Count {
		way, _ := limb.Mul(limb.Of(q.By), limb.Of(int64(j)))
		sum, _ := limb.Add(limb.Of(q.From), way)
		v, err := limb.Int64(sum)
		if err != api.OK || v < -edge || v > edge {
			return nil, false
		}
		list = append(list, v)
	}
	return list, true
}

// heldMeant are what the sources say at the step 0; false where one isn't on the grid.
func heldMeant(f api.Flat) ([]int64, bool) {
	list := make([]int64, len(f.Devs))
	for k, d := range f.Devs {
		if d.Kind != 'v' && d.Kind != 'i' {
			continue
		}
		now, err := wave.At(d.Wave, 0)
		if err != api.OK {
			return nil, false
		}
		list[k] = now
	}
	return list, true
}

// meant is what Points says of a right circuit, as a text.
func meant(f api.Flat, o api.Options, q sweep.Range) string {
	if pwl.Check(o) != api.OK || q.Count < 1 || q.Count > api.MaxSweep || !slices.Contains(sources(f), q.Dev) {
		return asError(api.ErrArg, 0, 0, 0, 0)
	}
	values, on := valuesMeant(q)
	held, onToo := heldMeant(f)
	if !on || !onToo {
		return asError(api.ErrRange, 0, 0, 0, 0)
	}
	l := &ledger{f: f, limbs: o.Limbs}
	choice := make([]int, len(system.Bent(f)))
	states, at, first := []api.State(nil), 0, api.OK
	for j, v := range values {
		held[q.Dev] = v
		x, next, err := l.step(choice, held, o.Iter)
		if first != api.OK {
			// Without bent devices all points are asked, whatever comes of one.
			continue
		}
		state := api.State{}
		if err == api.OK {
			state, err = reported(f, j, next, x, held)
		}
		if err == api.OK {
			choice, states = next, append(states, state)
			continue
		}
		if at, first = j, err; len(choice) > 0 {
			break
		}
	}
	if first != api.OK {
		states = nil
	}
	return text(states, l.counts, at, first)
}

// sources are the places of the sources.
func sources(f api.Flat) []int {
	var list []int
	for k, d := range f.Devs {
		if d.Kind == 'v' || d.Kind == 'i' {
			list = append(list, k)
		}
	}
	return list
}

// reported is a point's state of exact unknowns; ErrRange where one of its numbers isn't on the grid.
func reported(f api.Flat, number int, choice []int, x []api.Rat, src []int64) (api.State, api.Errno) {
	all, bent := slices.Clone(x), 0
	for k, d := range f.Devs {
		seg := 0
		if isBent(d) {
			seg, bent = choice[bent], bent+1
		}
		all = append(all, currentOf(f, k, seg, x, src))
	}
	var list []int64
	for _, r := range all {
		near, on := nearest(r)
		if !on {
			return api.State{}, api.ErrRange
		}
		list = append(list, near)
	}
	return api.State{Step: number, X: list[:len(x)], I: list[len(x):], Segs: choice}, api.OK
}

// currentOf is the current of a device by the chapters' words, kind by kind.
func currentOf(f api.Flat, k, seg int, x []api.Rat, src []int64) api.Rat {
	d := f.Devs[k]
	_, branches := flat.Unknowns(f)
	switch d.Kind {
	case 'r':
		return divided(across(d.Nodes[0], d.Nodes[1], x), valueOf(d.Value))
	case 'g':
		return times(across(d.Nodes[2], d.Nodes[3], x), valueOf(d.Value))
	case 'i':
		return ratio(src[k], 1)
	case 'f':
		return times(x[branches[d.Ref]], valueOf(d.Value))
	case 's':
		return times(across(d.Nodes[0], d.Nodes[1], x), valueOf(d.Model.G[seg]))
	case 'd':
		own := ratio(0, 1)
		for i := range seg {
			own = plus(own, times(less(valueOf(d.Model.G[i]), valueOf(d.Model.G[i+1])), inUnits(d.Model.V[i])))
		}
		return plus(own, times(across(d.Nodes[0], d.Nodes[1], x), valueOf(d.Model.G[seg])))
	}
	return x[branches[k]]
}

// nearest is r rounded to the nearest whole number, of two to the even one; and whether it is on the grid.
func nearest(r api.Rat) (int64, bool) {
	if compared(r, ratio(edge+1, 1)) >= 0 || compared(r, ratio(-edge-1, 1)) <= 0 {
		return 0, false
	}
	quotient, _, err := limb.QuoRem(r.Num, r.Den)
	if err != api.OK {
		panic(err)
	}
	at, _ := limb.Int64(quotient)
	best := at
	for _, x := range []int64{at - 1, at, at + 1} {
		if c := compared(away(r, x), away(r, best)); c < 0 || c == 0 && x%2 == 0 {
			best = x
		}
	}
	return best, -edge <= best && best <= edge
}

// away is how far r is from x.
func away(r api.Rat, x int64) api.Rat {
	off := less(r, ratio(x, 1))
	off.Num.Neg = false
	return off
}
