package plan_test

import (
	"slices"
	"testing"

	"shunt/api"
	"shunt/plan"
)

// P15.1: in every order of calls each answers what the layers below say of it alone, and Counts is told of all those ahead.
func TestInEveryOrder(t *testing.T) {
	d := dice(1511)
	met := map[api.Errno]int{}
	for range 400 {
		s, limbs := d.system(6), d.limbs()
		m, p := meant(s, limbs), made(t, s, limbs)
		var behind []plan.Ask
		for range 8 {
			asks := d.asks(len(s.Rows), d.below(5))
			switch d.below(6) {
			case 0:
				refusesTogether(t, p, asks, 17*d.below(2), api.ErrArg)
				continue
			case 1:
				if got, want := together(t, p, asks, 1+d.below(16)), m.texts(asks); !slices.Equal(got, want) {
					t.Fatalf("%s, %d limbs: Together(%s): %s, not %s", short(s), limbs, short(asks), short(got), short(want))
				}
			default:
				for _, a := range asks {
					want := m.reply(a)
					met[want.Err]++
					solves(t, p, a, text(want))
				}
			}
			behind = append(behind, asks...)
			if got, want := p.Counts(), m.counts(behind...); got != want {
				t.Fatalf("%s, %d limbs: Counts %v behind %s, not %v", short(s), limbs, got, short(behind), want)
			}
		}
	}
	for _, err := range []api.Errno{api.OK, api.ErrSize, api.ErrRange, api.ErrWide, api.ErrSingular} {
		if met[err] < 100 {
			t.Errorf("error %d: %d times", err, met[err])
		}
	}
}

// P15.2: a plan that has its factors, whatever it was asked ahead, says of an ask what a new plan does.
func TestAPlanWithFactorsIsAsANewOne(t *testing.T) {
	d := dice(1512)
	for range 300 {
		s, limbs := d.system(6), d.limbs()
		p := made(t, s, limbs)
		asks := d.asks(len(s.Rows), 6)
		for range 2 {
			for _, a := range asks {
				solves(t, p, a, text(reply(made(t, s, limbs), a)))
			}
			slices.Reverse(asks)
		}
	}
}

// Two plans of one system know nothing of one another.
func TestTwoPlansOfOneSystem(t *testing.T) {
	s := divider()
	p, o := made(t, s, 32), made(t, s, 32)
	solves(t, p, fiveVolts(), ofDivider)
	counted(t, p, 1, 3, 1)
	counted(t, o, 0, 0, 0)
	solves(t, o, fiveVolts(), ofDivider)
	solves(t, o, fiveVolts(), ofDivider)
	counted(t, p, 1, 3, 1)
	counted(t, o, 1, 3, 2)
	narrow := made(t, s, 1)
	refusesAsk(t, narrow, fiveVolts(), api.ErrWide)
	counted(t, narrow, 1, 3, 1)
	counted(t, p, 1, 3, 1)
}
