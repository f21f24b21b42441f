package sweep_test

import (
	"runtime"
	"sync"
	"testing"
	"time"

	"shunt/api"
	"shunt/sweep"
)

// settled is how many goroutines there are, when at most so many are left, or a while is over: one that is through may still be
// counted for a moment.
func settled(most int) int {
	for range 2000 {
		if runtime.NumGoroutine() <= most {
			break
		}
		time.Sleep(time.Millisecond)
	}
	return runtime.NumGoroutine()
}

// P18.1: no goroutine is left behind an answer, nor behind an error.
func TestNoGoroutineIsLeft(t *testing.T) {
	before := runtime.NumGoroutine()
	for _, x := range []struct {
		lines string
		limbs int
		q     sweep.Range
	}{
		{divider, 32, sweep.Range{By: 7, Count: 256}}, {divider, 32, sweep.Range{By: 7, Count: 1}}, {diode, 32, sweep.Range{By: volt / 100, Count: 256}},
		{"i1 a 0 1", 32, sweep.Range{By: 7, Count: 256}}, {plain, 1, sweep.Range{By: volt, Count: 256}}, {"v1 a 0 5 / r1 a 0 0.1", 32, sweep.Range{By: edge / 20, Count: 20}},
		{divider, 32, sweep.Range{Count: 257}}, {divider, 32, sweep.Range{From: edge, By: 1, Count: 256}}, {divider, 33, sweep.Range{Count: 1}},
	} {
		for _, workers := range []int{1, 2, 16} {
			for range 10 {
				sweep.Points(laid(x.lines), api.Options{Limbs: x.limbs, Iter: 8, Workers: workers}, x.q)
			}
			if now := settled(before); now > before {
				t.Fatalf("%s: %d goroutines, not %d", x.lines, now, before)
			}
		}
	}
}

// Many that ask for the same circuit's ranges at one time are told what each is told alone.
func TestManyRangesAtOneTime(t *testing.T) {
	for _, lines := range []string{divider, diode, stairs, plain} {
		f := laid(lines)
		want := make([]string, 12)
		for k := range want {
			want[k] = answer(f, by(4), sweep.Range{By: int64(k) * volt / 10, Count: 40})
		}
		var group sync.WaitGroup
		for k := range want {
			group.Add(1)
			go func() {
				defer group.Done()
				o := api.Options{Limbs: 32, Iter: 4, Workers: 1 + k}
				if got := answer(f, o, sweep.Range{By: int64(k) * volt / 10, Count: 40}); got != want[k] {
					t.Errorf("%s: %s, not %s", lines, short(got), short(want[k]))
				}
			}()
		}
		group.Wait()
	}
}
