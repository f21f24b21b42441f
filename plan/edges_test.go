package plan_test

import (
	"math"
	"runtime"
	"slices"
	"strconv"
	"testing"
	"time"

	"shunt/api"
	"shunt/plan"
)

func TestNoRowAtAll(t *testing.T) {
	for _, s := range []api.System{{}, {Rows: []api.Row{}}} {
		for limbs := 1; limbs <= 32; limbs++ {
			p := made(t, s, limbs)
			refusesAsk(t, p, prev(0), api.ErrSize)
			refusesAsk(t, p, plan.Ask{Src: []int64{edge + 1}}, api.ErrRange)
			counted(t, p, 0, 0, 0)
			solves(t, p, plan.Ask{}, "/ 1")
			counted(t, p, 1, 0, 1)
			solves(t, p, plan.Ask{Prev: []int64{}, Src: []int64{1, 2, 3}}, "/ 1")
			if got := together(t, p, make([]plan.Ask, 5), 3); !slices.Equal(got, slices.Repeat([]string{"/ 1"}, 5)) {
				t.Error(got)
			}
			counted(t, p, 1, 0, 7)
		}
		refuses(t, s, 0, api.ErrArg)
		refuses(t, s, 33, api.ErrArg)
	}
}

func TestMostRows(t *testing.T) {
	s := ladder(23, timed(api.Euler))
	if len(s.Rows) != 48 {
		t.Fatal(len(s.Rows))
	}
	p := made(t, s, 32)
	if got, want := text(reply(p, noughts(48))), text(meant(s, 32).reply(noughts(48))); got != want {
		t.Errorf("%s, not %s", short(got), short(want))
	}
	counted(t, p, 1, 48, 1)
	refusesAsk(t, p, noughts(47), api.ErrSize)
	refusesAsk(t, p, noughts(49), api.ErrSize)
	s.Rows = append(s.Rows, s.Rows[0])
	refuses(t, s, 32, api.ErrPattern)
}

func TestLimbsAllowed(t *testing.T) {
	for _, limbs := range []int{0, -1, 33, 34, 64, 72, math.MinInt, math.MaxInt, 1 << 32, 1<<32 + 1} {
		refuses(t, matrix("2 1 / 1 3"), limbs, api.ErrArg)
	}
	for limbs := 1; limbs <= 32; limbs++ {
		p := made(t, matrix("2 1 / 1 3"), limbs)
		solves(t, p, prev(5, 10), "5 15 / 5")
		counted(t, p, 1, 2, 1)
	}
}

// Numbers that have just as many limbs as are allowed, and one more: in the matrix, in the right side and in X.
func TestJustAsManyLimbs(t *testing.T) {
	for limbs := 1; limbs <= 32; limbs++ {
		great, over := told(full(limbs)), "2^"+strconv.Itoa(32*limbs)
		p := made(t, of("a0:"+great+" k"+great), limbs)
		solves(t, p, prev(0), great+" / "+great)
		counted(t, p, 1, 1, 1)
		p = made(t, of("a0:"+over), limbs)
		refusesAsk(t, p, prev(0), api.ErrWide)
		counted(t, p, 1, 0, 0)
		p = made(t, of("a0:1 h0:"+over), limbs)
		refusesAsk(t, p, prev(1), api.ErrWide)
		counted(t, p, 1, 1, 1)
		solves(t, p, prev(0), "0 / 1")
		refusesAsk(t, p, prev(-1), api.ErrWide)
		counted(t, p, 1, 1, 3)
		p = made(t, of("a0:1 a1:1 h0:1 / a1:1 k-"+great), limbs)
		refusesAsk(t, p, prev(1, 0), api.ErrWide)
		solves(t, p, prev(0, 0), great+" -"+great+" / 1")
		counted(t, p, 1, 2, 2)
	}
}

// Nothing that is refused or empty is a need of the factors, of a plan that has none, or an error.
func TestNoNeedOfTheFactors(t *testing.T) {
	for _, x := range []struct {
		matrix string
		pivots int64
		solves int64
		want   string
	}{
		{"2 1 / 1 3", 2, 1, "5 15 / 5"}, {"1 2 / 2 4", 1, 0, "error 140"}, {"0 0 / 0 0", 0, 0, "error 140"},
		{"2^32 0 / 0 1", 0, 0, "error 13"}, {"65536 0 / 0 65536", 1, 0, "error 13"},
	} {
		p := made(t, matrix(x.matrix), 1)
		idle := func(factors, pivots, solves int64) {
			refusesAsk(t, p, prev(1), api.ErrSize)
			refusesAsk(t, p, prev(1, 2, 3), api.ErrSize)
			refusesAsk(t, p, plan.Ask{}, api.ErrSize)
			refusesAsk(t, p, plan.Ask{Prev: []int64{5, 10}, Src: []int64{0}}, api.ErrSize)
			refusesAsk(t, p, prev(5, edge+1), api.ErrRange)
			refusesAsk(t, p, plan.Ask{Prev: []int64{5, 10}, Src: []int64{0, 0, math.MinInt64}}, api.ErrRange)
			refusesTogether(t, p, []plan.Ask{prev(5, 10)}, 0, api.ErrArg)
			refusesTogether(t, p, slices.Repeat([]plan.Ask{prev(5, 10)}, 257), 16, api.ErrMany)
			together(t, p, nil, 16)
			if got := together(t, p, []plan.Ask{prev(5), prev(-edge-1, 0)}, 2); !slices.Equal(got, []string{"error 5", "error 4"}) {
				t.Error(got)
			}
			counted(t, p, factors, pivots, solves)
		}
		idle(0, 0, 0)
		solves(t, p, prev(5, 10), x.want)
		idle(1, x.pivots, x.solves)
	}
}

// A plan whose factoring ends with an error, at the first stage or a later one, says so however often it is asked.
func TestPlansInError(t *testing.T) {
	for _, x := range []struct {
		matrix string
		pivots int64
		want   string
	}{
		{"0", 0, "error 140"}, {"1 2 / 2 4", 1, "error 140"}, {"1 2 3 / 4 5 6 / 7 8 9", 2, "error 140"}, {"1 1 1 / 1 1 1 / 1 1 1", 1, "error 140"},
		{"1 0 0 0 / 0 1 0 0 / 0 0 1 0 / 0 0 0 0", 3, "error 140"},
		{"2^32", 0, "error 13"}, {"1 2^1024 / 0 0", 0, "error 13"}, {"65536 0 / 0 65536", 1, "error 13"}, {"65537 1 / 1 65536", 1, "error 13"},
		{"1 0 0 / 0 65536 0 / 0 0 65536", 2, "error 13"}, {"256 0 0 0 / 0 256 0 0 / 0 0 256 0 / 0 0 0 256", 3, "error 13"},
	} {
		s := matrix(x.matrix)
		p := made(t, s, 1)
		for k := range 4 {
			solves(t, p, noughts(len(s.Rows)), x.want)
			counted(t, p, 1, x.pivots, 0)
			solves(t, p, noughts(len(s.Rows)+1), "error 5")
			if got := together(t, p, slices.Repeat([]plan.Ask{noughts(len(s.Rows))}, 9), 1+k); !slices.Equal(got, slices.Repeat([]string{x.want}, 9)) {
				t.Error(got)
			}
			counted(t, p, 1, x.pivots, 0)
		}
		p = made(t, s, 1)
		together(t, p, slices.Repeat([]plan.Ask{noughts(len(s.Rows))}, 9), 16)
		counted(t, p, 1, x.pivots, 0)
	}
}

// A right side that is wide is so for layer 12, or for layer 14 alone: either is solved for nothing, and changes nothing.
func TestWideSides(t *testing.T) {
	p := made(t, of("a0:3 h0:2^2300 / a1:1 s2:1 h1:2^31"), 2)
	for k := range int64(3) {
		refusesAsk(t, p, prev(edge, 0), api.ErrWide)
		refusesAsk(t, p, prev(-edge, 0), api.ErrWide)
		refusesAsk(t, p, prev(1, 0), api.ErrWide)
		refusesAsk(t, p, prev(0, 1<<33), api.ErrWide)
		solves(t, p, prev(0, -1<<30), "0 -6917529027641081856 / 3")
		counted(t, p, 1, 2, 5+5*k)
	}
	refusesAsk(t, p, prev(edge, edge+1), api.ErrRange)
	refusesAsk(t, p, prev(edge), api.ErrSize)
	counted(t, p, 1, 2, 15)
	p = made(t, of("a0:3 h0:2^2300"), 32)
	refusesAsk(t, p, prev(edge), api.ErrWide)
	counted(t, p, 1, 1, 1)
}

// An X is wide, though neither the matrix nor the right side is.
func TestWideX(t *testing.T) {
	p := made(t, matrix("1 65536 / 0 1"), 1)
	refusesAsk(t, p, prev(0, 65536), api.ErrWide)
	counted(t, p, 1, 2, 1)
	solves(t, p, prev(0, 65535), "-4294901760 65535 / 1")
	refusesAsk(t, p, prev(0, -65536), api.ErrWide)
	counted(t, p, 1, 2, 3)
	solves(t, made(t, matrix("1 65536 / 0 1"), 2), prev(0, 65536), "-4294967296 65536 / 1")
}

// The ends of the grid, in Prev and in Src; a Src that has a place for the last column that is asked for, and no more.
func TestEndsOfAnAsk(t *testing.T) {
	p := made(t, of("a0:1 h0:1 s0:2 s63:3"), 32)
	full := func(first, last int64) []int64 {
		l := make([]int64, 64)
		l[0], l[63] = first, last
		return l
	}
	solves(t, p, plan.Ask{Prev: []int64{edge}, Src: full(edge, edge)}, "6000000000000000000 / 1")
	solves(t, p, plan.Ask{Prev: []int64{-edge}, Src: full(-edge, -edge)}, "-6000000000000000000 / 1")
	solves(t, p, plan.Ask{Prev: []int64{7}, Src: append(full(10, 100), 5, 6, 7)}, "327 / 1")
	refusesAsk(t, p, plan.Ask{Prev: []int64{7}, Src: full(10, 100)[:63]}, api.ErrSize)
	refusesAsk(t, p, plan.Ask{Prev: []int64{7}}, api.ErrSize)
	for _, off := range []int64{edge + 1, -edge - 1, math.MaxInt64, math.MinInt64} {
		refusesAsk(t, p, plan.Ask{Prev: []int64{off}, Src: full(0, 0)}, api.ErrRange)
		refusesAsk(t, p, plan.Ask{Prev: []int64{0}, Src: full(off, 0)}, api.ErrRange)
		refusesAsk(t, p, plan.Ask{Prev: []int64{0}, Src: append(full(0, 0), off)}, api.ErrRange)
	}
	counted(t, p, 1, 1, 3)
	solves(t, made(t, of("a0:1 k5"), 1), plan.Ask{Prev: []int64{3}}, "5 / 1")
}

// No ask, and as many as may be, by however many; each reply stands where its ask does.
func TestAsManyAsMayBe(t *testing.T) {
	for workers := 1; workers <= 16; workers++ {
		p := made(t, matrix("1"), 2)
		for _, count := range []int{0, 1, 2, 15, 16, 17, 255, 256} {
			var asks []plan.Ask
			var want []string
			for k := range count {
				asks = append(asks, prev(int64(1000*workers+k)))
				want = append(want, strconv.Itoa(1000*workers+k)+" / 1")
			}
			if got := together(t, p, asks, workers); !slices.Equal(got, want) {
				t.Errorf("%d workers: %s, not %s", workers, short(got), short(want))
			}
		}
		counted(t, p, 1, 1, 562)
		refusesTogether(t, p, slices.Repeat([]plan.Ask{prev(1)}, 257), workers, api.ErrMany)
		refusesTogether(t, p, make([]plan.Ask, 1<<16), workers, api.ErrMany)
		counted(t, p, 1, 1, 562)
	}
}

// Behind many calls there are no more goroutines than ahead of them.
func TestWorkersHaveEnded(t *testing.T) {
	p := made(t, matrix("2 1 / 1 3"), 32)
	ahead := runtime.NumGoroutine()
	for range 100 {
		together(t, p, []plan.Ask{prev(5, 10)}, 16)
	}
	for range 1000 {
		if runtime.NumGoroutine() <= ahead {
			return
		}
		time.Sleep(time.Millisecond) // one that is joined may still be on its way out
	}
	t.Errorf("%d goroutines, not %d", runtime.NumGoroutine(), ahead)
}
