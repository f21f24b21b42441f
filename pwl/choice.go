package pwl

import (
	"slices"

	"shunt/api"
	"shunt/limb"
	"shunt/model"
	"shunt/plan"
	"shunt/rat"
	"shunt/system"
)

// solve is the exact solution of a right choice's equations.
func (s *Solver) solve(choice []int, a plan.Ask) (api.Solution, api.Errno) {
	if s.kept == nil || !slices.Equal(s.choice, choice) {
		if err := s.keep(choice); err != api.OK {
			return api.Solution{}, err
		}
	}
	return s.kept.Solve(a)
}

// keep puts a new plan, of this choice, into the place of the kept one, which goes in any case.
func (s *Solver) keep(choice []int) api.Errno {
	s.past, s.kept = s.Counts(), nil
	equations, err := system.Build(s.circuit, s.setting, choice)
	if err != api.OK {
		return err
	}
	s.kept, err = plan.New(equations, s.options.Limbs)
	s.choice = slices.Clone(choice)
	return err
}

// both are the sums of two Counts.
func both(a, b api.Counts) api.Counts {
	return api.Counts{Factors: a.Factors + b.Factors, Pivots: a.Pivots + b.Pivots, Solves: a.Solves + b.Solves}
}

// nextChoice is the choice behind this one; it is the same one where it holds.
func nextChoice(f api.Flat, choice []int, x api.Solution) []int {
	next := slices.Clone(choice)
	for i, k := range system.Bent(f) {
		d := f.Devs[k]
		side, _ := model.Side(d.Model, choice[i], looksAt(d, x))
		next[i] += side
	}
	return next
}

// looksAt is the voltage that a bent device looks at: a diode its own, a switch that from C to D. What elimination stores is
// so short that their difference is never too wide for layer 1.
func looksAt(d api.Dev, x api.Solution) api.Rat {
	from, to := d.Nodes[0], d.Nodes[1]
	if d.Kind == 's' {
		from, to = d.Nodes[2], d.Nodes[3]
	}
	across, _ := limb.Sub(voltage(from, x), voltage(to, x))
	u, _ := rat.Make(across, x.D)
	return u
}

// voltage is that of a node, times D.
func voltage(node int, x api.Solution) api.Int {
	if node == 0 {
		return api.Int{}
	}
	return x.X[node-1]
}
