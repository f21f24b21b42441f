package plan_test

import (
	"slices"
	"sync"
	"testing"

	"shunt/api"
	"shunt/plan"
)

// atOnce runs do for each number below count, all at one time, as near as may be.
func atOnce(count int, do func(i int)) {
	start := make(chan struct{})
	var group sync.WaitGroup
	for i := range count {
		group.Add(1)
		go func() {
			defer group.Done()
			<-start
			do(i)
		}()
	}
	close(start)
	group.Wait()
}

// P15.2: of many that ask one new plan at one time each is told what a new plan of its own says, and Counts what all of them
// did: one factoring.
func TestManyAskANewPlanAtOneTime(t *testing.T) {
	d := dice(1521)
	for range 150 {
		s, limbs := d.system(6), d.limbs()
		asks := d.asks(len(s.Rows), 24)
		got := make([]string, len(asks))
		p := made(t, s, limbs)
		atOnce(len(asks), func(i int) { got[i] = text(reply(p, asks[i])) })
		if now, want := p.Counts(), meant(s, limbs).counts(asks...); now != want {
			t.Fatalf("%s, %d limbs: Counts %v, not %v", short(s), limbs, now, want)
		}
		for i, a := range asks {
			if want := text(reply(made(t, s, limbs), a)); got[i] != want {
				t.Fatalf("%s, %d limbs: Solve(%s): %s, not %s", short(s), limbs, short(a), short(got[i]), short(want))
			}
		}
	}
}

// The same of a system that takes its time, so that many wait for its factors; and of plans in error.
func TestManyWaitForTheFactors(t *testing.T) {
	great := ladder(12, timed(api.Trap))
	alike := ladder(12, timed(api.Euler))
	alike.Rows[25] = alike.Rows[24]
	for _, x := range []struct {
		s     api.System
		limbs int
		want  api.Errno
	}{{great, 32, api.OK}, {great, 5, api.ErrWide}, {alike, 32, api.ErrSingular}} {
		m, p := meant(x.s, x.limbs), made(t, x.s, x.limbs)
		if m.err != x.want {
			t.Fatal(m.err)
		}
		d := dice(1522)
		var asks []plan.Ask
		for range 32 {
			asks = append(asks, plan.Ask{Prev: d.grid(26), Src: d.grid(64)})
		}
		got := make([]string, len(asks))
		atOnce(len(asks), func(i int) { got[i] = text(reply(p, asks[i])) })
		if want := m.texts(asks); !slices.Equal(got, want) {
			t.Errorf("%s, not %s", short(got), short(want))
		}
		if now, want := p.Counts(), m.counts(asks...); now != want {
			t.Errorf("Counts %v, not %v", now, want)
		}
	}
}

// Solve, Together and Counts of one new plan, all at one time.
func TestAllCallsAtOneTime(t *testing.T) {
	d := dice(1523)
	for range 60 {
		s, limbs := d.system(6), d.limbs()
		m, p := meant(s, limbs), made(t, s, limbs)
		asks := d.asks(len(s.Rows), 20)
		want := m.texts(asks)
		atOnce(9, func(i int) {
			switch i % 3 {
			case 0:
				if l, err := p.Together(asks, 1+i); err != api.OK || !slices.Equal(texts(l), want) {
					t.Errorf("%s, %d limbs: Together: %s, error %d, not %s", short(s), limbs, short(texts(l)), err, short(want))
				}
			case 1:
				for k, a := range asks {
					if got := text(reply(p, a)); got != want[k] {
						t.Errorf("%s, %d limbs: Solve(%s): %s, not %s", short(s), limbs, short(a), short(got), short(want[k]))
					}
				}
			default:
				p.Counts()
			}
		})
		if now, want := p.Counts(), m.counts(slices.Repeat(asks, 6)...); now != want {
			t.Fatalf("%s, %d limbs: Counts %v, not %v", short(s), limbs, now, want)
		}
	}
}

// Calls that are refused, and no need of the factors, leave others alone that make them at the same time.
func TestNoNeedWhileOthersMakeTheFactors(t *testing.T) {
	s := ladder(8, timed(api.Trap))
	want := text(meant(s, 32).reply(noughts(18)))
	for range 20 {
		p := made(t, s, 32)
		atOnce(12, func(i int) {
			switch i % 4 {
			case 0:
				solves(t, p, noughts(18), want)
			case 1:
				refusesAsk(t, p, noughts(17), api.ErrSize)
			case 2:
				together(t, p, []plan.Ask{noughts(17), {}}, i)
			default:
				together(t, p, nil, i)
				refusesTogether(t, p, nil, 17, api.ErrArg)
			}
		})
		counted(t, p, 1, 18, 3)
	}
}

// watched is all that Counts tells, one after the other and each once, while do runs.
func watched(p *plan.Plan, do func()) []api.Counts {
	done, out := make(chan struct{}), make(chan []api.Counts)
	go func() {
		l := []api.Counts{p.Counts()}
		for {
			if c := p.Counts(); c != l[len(l)-1] {
				l = append(l, c)
			}
			select {
			case <-done:
				out <- l
				return
			default:
			}
		}
	}()
	do()
	close(done)
	return <-out
}

// Calls at one time answer as if one came behind the other: so Counts is never told of a part of one. Each call here solves
// seven asks; of a right plan there is no factoring without them.
func TestCountsAreNeverOfHalfACall(t *testing.T) {
	s := ladder(8, timed(api.Euler))
	asks := slices.Repeat([]plan.Ask{noughts(18)}, 7)
	for range 20 {
		p := made(t, s, 32)
		l := watched(p, func() {
			atOnce(3, func(i int) {
				for range 3 {
					p.Together(asks, 1+i)
				}
			})
		})
		last := int64(0)
		for _, c := range l {
			if c.Solves%7 != 0 || c.Solves < last || c != (api.Counts{}) && (c.Factors != 1 || c.Pivots != 18 || c.Solves == 0) {
				t.Fatalf("Counts are %v on the way", l)
			}
			last = c.Solves
		}
		counted(t, p, 1, 18, 63)
	}
}

// The same of calls that are asked one by one, and of a plan in error.
func TestCountsOnTheWay(t *testing.T) {
	right := ladder(8, timed(api.Euler))
	alike := ladder(8, timed(api.Euler))
	alike.Rows[17] = alike.Rows[16]
	for range 20 {
		for _, s := range []api.System{right, alike} {
			m, p := meant(s, 32), made(t, s, 32)
			l := watched(p, func() {
				atOnce(4, func(i int) { p.Solve(noughts(18)) })
			})
			for _, c := range l {
				if c != (api.Counts{}) && (c.Factors != 1 || c.Pivots != int64(m.pivots) || (c.Solves == 0) != (m.err != api.OK)) {
					t.Fatalf("Counts are %v on the way", l)
				}
			}
		}
	}
}
