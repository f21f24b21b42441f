package plan_test

import (
	"slices"
	"testing"

	"shunt/api"
	"shunt/plan"
)

// likeOneByOne fails unless Together answers, with each number of workers, what Solve does of one ask behind the other, and
// both leave the same Counts: of new plans, and again of the same ones.
func likeOneByOne(t *testing.T, s api.System, limbs int, asks []plan.Ask) {
	t.Helper()
	single := made(t, s, limbs)
	var want []string
	for _, a := range asks {
		want = append(want, text(reply(single, a)))
	}
	once := single.Counts()
	for _, a := range asks {
		single.Solve(a)
	}
	for workers := 1; workers <= 16; workers++ {
		p := made(t, s, limbs)
		for _, counts := range []api.Counts{once, single.Counts()} {
			if got := together(t, p, asks, workers); !slices.Equal(got, want) {
				t.Fatalf("%s, %d limbs, %d workers: %s, not %s", short(s), limbs, workers, short(got), short(want))
			}
			if got := p.Counts(); got != counts {
				t.Fatalf("%s, %d limbs, %d workers: Counts %v behind %s, not %v", short(s), limbs, workers, got, short(asks), counts)
			}
		}
	}
}

// P15.3, of right asks and refused ones.
func TestTogetherIsLikeOneByOne(t *testing.T) {
	d := dice(1531)
	met := map[int]int{}
	for range 80 {
		s := d.system(6)
		asks := d.asks(len(s.Rows), d.below(30))
		likeOneByOne(t, s, d.limbs(), asks)
		met[len(asks)]++
	}
	if met[0] == 0 || met[1] == 0 || met[2] == 0 || len(met) < 20 {
		t.Error(met)
	}
}

// The same of systems that are built, and as many asks as may be.
func TestTogetherOfCircuits(t *testing.T) {
	d := dice(1532)
	for _, set := range []api.Setting{resting(), timed(api.Euler), timed(api.Trap)} {
		for _, lines := range circuits() {
			s := built(lines, set)
			var asks []plan.Ask
			for range 20 {
				a := d.ask(len(s.Rows))
				if len(a.Src) > 5 {
					a.Src = append(a.Src, d.grid(58)...)
				}
				asks = append(asks, a)
			}
			likeOneByOne(t, s, 32, asks)
		}
	}
	s := divider()
	likeOneByOne(t, s, 32, d.asks(len(s.Rows), 256))
}

// Asks that share memory with one another, and the same ask many times, make no difference.
func TestAsksThatShareMemory(t *testing.T) {
	list := []int64{5, 10, 15, 20}
	var asks []plan.Ask
	for k := range 3 {
		asks = append(asks, plan.Ask{Prev: list[k : k+2], Src: list}, plan.Ask{Prev: list[:2], Src: list[k:]}, plan.Ask{Prev: list[2:], Src: list[2:]})
	}
	likeOneByOne(t, matrix("2 1 / 1 3"), 32, slices.Repeat(asks, 20))
	if !slices.Equal(list, []int64{5, 10, 15, 20}) {
		t.Error(list)
	}
}
