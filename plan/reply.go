package plan

import (
	"sync/atomic"

	"shunt/api"
	"shunt/bareiss"
	"shunt/system"
)

// makeFactors is for the Once alone.
func (p *Plan) makeFactors() {
	factor, pivots, err := bareiss.New(p.matrix, p.limbs)
	p.factor, p.err, p.matrix = factor, err, nil
	p.done.factored(pivots)
}

// reply is what Solve answers to the ask, and whether the ask needed the factors. A right side that is too wide needs them,
// too: the plan's error is told ahead of it.
func (p *Plan) reply(a Ask) (Reply, bool) {
	side, sideErr := system.Rhs(p.sides, a.Prev, a.Src)
	if sideErr == api.ErrSize || sideErr == api.ErrRange {
		return Reply{Err: sideErr}, false
	}
	p.once.Do(p.makeFactors)
	if p.err != api.OK {
		return Reply{Err: p.err}, true
	}
	if sideErr != api.OK {
		return Reply{Err: sideErr}, true
	}
	solution, err := p.factor.Solve(side)
	return Reply{Solution: solution, Err: err}, true
}

// count counts a call of which so many asks, one at least, needed the factors.
func (p *Plan) count(needs int64) {
	if p.err != api.OK {
		needs = 0
	}
	p.done.solved(needs)
}

// A round is one Together: its asks, a reply to each, the next ask that nobody has taken, and how many needed the factors.
type round struct {
	asks        []Ask
	replies     []Reply
	next, needs atomic.Int64
}

// work is what each worker does, until no ask is left.
func (p *Plan) work(r *round) {
	for {
		k := r.next.Add(1) - 1
		if k >= int64(len(r.asks)) {
			return
		}
		reply, needed := p.reply(r.asks[k])
		r.replies[k] = reply
		if needed {
			r.needs.Add(1)
		}
	}
}
