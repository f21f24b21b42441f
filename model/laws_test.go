package model_test

import (
	"slices"
	"testing"

	"shunt/api"
	"shunt/limb"
	"shunt/model"
	"shunt/num"
	"shunt/rat"
)

func sameValue(v api.Num) api.Rat { return sure(num.Value(v)) }

// many are right models.
func many(seed dice, count int) []api.Model {
	l := rights()
	for range count {
		l = append(l, seed.model())
	}
	return l
}

// ownPart is c of the segment k of a diode, reckoned another way: what the current has grown to at the segment's lower end,
// less what g says there, in units of ten to the power -27.
func ownPart(m api.Model, k int) api.Rat {
	if k == 0 {
		return whole(0)
	}
	at := inSmallest(m.V[0])
	current := times(inSmallest(m.G[0]), at)
	for i := 1; i < k; i++ {
		next := inSmallest(m.V[i])
		grown := times(inSmallest(m.G[i]), sure(limb.Sub(next, at)))
		current, at = sure(limb.Add(current, grown)), next
	}
	return sure(rat.Make(sure(limb.Sub(current, times(inSmallest(m.G[k]), at))), ten(27)))
}

func TestPartsReckonedApart(t *testing.T) {
	for _, m := range many(1, 2000) {
		right(t, m)
		for k, g := range m.G {
			c := whole(0)
			if m.Kind == 'd' {
				c = ownPart(m, k)
			}
			does(t, m, k, sameValue(g), c)
		}
		if t.Failed() {
			return
		}
	}
}

func TestEachSomewhere(t *testing.T) {
	for _, m := range many(2, 400) {
		for _, u := range near(m) {
			at := holders(m, u)
			twice := slices.ContainsFunc(m.V, func(v api.Num) bool { return place(u, v) == 0 })
			if len(at) != 1 && !(twice && len(at) == 2 && at[1] == at[0]+1) {
				t.Fatalf("%v: %v is in the segments %v", m, u, at)
			}
			finds(t, m, u, at[0])
			for k := range m.G {
				lies(t, m, k, u, sideOf(m, k, u))
			}
			if t.Failed() {
				return
			}
		}
	}
}

// walk goes by Side's answers from the segment k on to one that holds u.
func walk(t *testing.T, m api.Model, k int, u api.Rat) {
	t.Helper()
	from := k
	for range m.G {
		s, err := model.Side(m, k, u)
		if err != api.OK {
			t.Fatalf("%v: from %d to %v Side answers error %d in %d", m, from, u, err, k)
		}
		if s == 0 {
			break
		}
		k += s
		if k < 0 || k >= model.Count(m) {
			t.Fatalf("%v: from %d to %v one is led out of the segments, to %d", m, from, u, k)
		}
	}
	if !slices.Contains(holders(m, u), k) {
		t.Fatalf("%v: from %d one is led to %d, which doesn't hold %v", m, from, k, u)
	}
}

func TestSideLeadsThere(t *testing.T) {
	for _, m := range many(3, 200) {
		for _, u := range near(m) {
			for k := range m.G {
				walk(t, m, k, u)
			}
		}
	}
}

// current is what a segment says of the current at u.
func current(m api.Model, k int, u api.Rat) api.Rat {
	g, c, err := model.Part(m, k)
	return sure(rat.Add(sure(rat.Mul(sure(g, err), u)), c))
}

func TestUnbroken(t *testing.T) {
	for _, m := range many(4, 2000) {
		if m.Kind != 'd' {
			continue
		}
		for k, v := range m.V {
			u := knotOf(v)
			if a, b := current(m, k, u), current(m, k+1, u); !one(a, b) {
				t.Fatalf("%v: at the knot %d the segments say %v and %v", m, k, a, b)
			}
		}
	}
}

// unfalling is m with no G below 0.
func unfalling(m api.Model) api.Model {
	m.G = slices.Clone(m.G)
	for i := range m.G {
		m.G[i].Mant = max(m.G[i].Mant, -m.G[i].Mant)
	}
	return m
}

func TestTheCurrentDoesntFall(t *testing.T) {
	for _, m := range many(5, 300) {
		if m.Kind != 'd' {
			continue
		}
		m = unfalling(m)
		voltages := near(m)
		slices.SortFunc(voltages, func(a, b api.Rat) int { return sure(rat.Cmp(a, b)) })
		var last api.Rat
		for i, u := range voltages {
			now := current(m, sure(model.Find(m, u)), u)
			if i > 0 && sure(rat.Cmp(last, now)) > 0 {
				t.Fatalf("%v: the current falls from %v to %v at %v", m, last, now, u)
			}
			last = now
		}
	}
}

// At 0 V no current flows, if 0 V is in the first segment; it needn't be 0 in others.
func TestAtNoVoltage(t *testing.T) {
	for _, m := range many(6, 300) {
		if k := sure(model.Find(m, whole(0))); m.Kind == 'd' && k == 0 && !one(current(m, k, whole(0)), whole(0)) {
			t.Fatalf("%v: a current at no voltage", m)
		}
	}
	m := diode(list(n(1, 0), n(2, 0)), list(n(-1, 0)))
	if c := current(m, 1, whole(0)); !one(c, whole(1000000000)) {
		t.Errorf("%v: %v", m, c)
	}
}
