package plan

import (
	"sync/atomic"

	"shunt/api"
)

// A tally counts what a plan has done. A call counts by solved, once, when it is through; ahead of the first one's that
// nothing is told, though factors may have been made: so Counts is never told of half a call.
type tally struct {
	factors, pivots, solves atomic.Int64
	through                 atomic.Bool
}

// factored counts one factoring.
func (t *tally) factored(pivots int) {
	t.factors.Add(1)
	t.pivots.Add(int64(pivots))
}

// solved counts a call that needed the factors and solved so many asks with them.
func (t *tally) solved(asks int64) {
	t.solves.Add(asks)
	t.through.Store(true)
}

func (t *tally) counts() api.Counts {
	if !t.through.Load() {
		return api.Counts{}
	}
	return api.Counts{Factors: t.factors.Load(), Pivots: t.pivots.Load(), Solves: t.solves.Load()}
}
