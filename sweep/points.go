package sweep

import (
	"shunt/api"
	"shunt/plan"
	"shunt/pwl"
	"shunt/system"
)

func resting() api.Setting { return api.Setting{Mode: api.Op} }

// together answers the points of a circuit without bent devices: one plan, asked by all workers.
func together(f api.Flat, o api.Options, asks []plan.Ask) ([]api.State, api.Counts, int, api.Errno) {
	equations, err := system.Build(f, resting(), nil)
	if err != api.OK {
		return nil, api.Counts{}, 0, err
	}
	p, _ := plan.New(equations, o.Limbs)
	replies, _ := p.Together(asks, o.Workers)
	var states []api.State
	for number, reply := range replies {
		if reply.Err != api.OK {
			return nil, p.Counts(), number, reply.Err
		}
		state, err := stateOf(f, number, nil, reply.Solution, asks[number].Src)
		if err != api.OK {
			return nil, p.Counts(), number, err
		}
		states = append(states, state)
	}
	return states, p.Counts(), 0, api.OK
}

// oneBehindTheOther answers the points of a circuit with bent devices: each needs the choice that the one ahead found.
func oneBehindTheOther(f api.Flat, o api.Options, asks []plan.Ask) ([]api.State, api.Counts, int, api.Errno) {
	solver, _ := pwl.New(f, resting(), o)
	choice := make([]int, len(system.Bent(f)))
	var states []api.State
	for number, ask := range asks {
		found, err := solver.Step(choice, ask)
		if err != api.OK {
			return nil, solver.Counts(), number, err
		}
		state, err := stateOf(f, number, found.Segs, found.Solution, ask.Src)
		if err != api.OK {
			return nil, solver.Counts(), number, err
		}
		states = append(states, state)
		choice = found.Segs
	}
	return states, solver.Counts(), 0, api.OK
}

// stateOf is a point's state, as reported.
func stateOf(f api.Flat, number int, segs []int, x api.Solution, src []int64) (api.State, api.Errno) {
	unknowns, currents, err := pwl.Report(f, segs, x, src)
	if err != api.OK {
		return api.State{}, err
	}
	return api.State{Step: number, X: unknowns, I: currents, Segs: segs}, api.OK
}
