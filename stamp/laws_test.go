package stamp_test

import (
	"slices"
	"testing"

	"shunt/api"
	"shunt/flat"
	"shunt/rat"
	"shunt/stamp"
)

// right fails unless layer 9 says that f is right.
func right(t *testing.T, f api.Flat) {
	t.Helper()
	if err := flat.Check(f); err != api.OK {
		t.Fatalf("%v: error %d", f, err)
	}
}

// enough fails unless each kind of device was met as often as it is to be.
func enough(t *testing.T, met map[byte]int, least int) {
	t.Helper()
	for _, kind := range []byte(allKinds) {
		if met[kind] < least {
			t.Errorf("%c was met only %d times", kind, met[kind])
		}
	}
}

// P11.1: devices of all kinds, in all settings and segments, as the chapter's table says.
func TestStampsAreThoseOfTheTable(t *testing.T) {
	d := dice(111)
	met := map[byte]int{}
	for range 4000 {
		f := d.flat(0)
		right(t, f)
		for k, x := range f.Devs {
			s, seg := d.setting(), d.segment(x)
			met[x.Kind]++
			ofIs(t, f, k, s, seg, text(meant(f, k, s, seg)))
			currentIs(t, f, k, seg, text(meantCurrent(f, k, seg)))
			if t.Failed() {
				t.FailNow()
			}
		}
	}
	enough(t, met, 1000)
}

// Each kind of device between each of three nodes, in each mode, by each method, in each segment.
func TestAllPlacesOfOneDevice(t *testing.T) {
	for _, kind := range []byte(allKinds) {
		for i := range 81 {
			f := hand("0 a b", "v v 1 2 dc 1", line(kind, [4]int{i % 3, i / 3 % 3, i / 9 % 3, i / 27}))
			for seg := range 2 {
				for _, s := range []api.Setting{rest(), euler("3"), trap("3")} {
					ofIs(t, f, 1, s, seg, text(meant(f, 1, s, seg)))
				}
				currentIs(t, f, 1, seg, text(meantCurrent(f, 1, seg)))
			}
		}
	}
}

// Quotients of the greatest and the least numbers, and of those whose divisors are ten's, at every two powers of ten.
func TestQuotients(t *testing.T) {
	mants := []int64{1, 2, 3, 4, 5, 125, 1 << 18, 1 << 29, 244140625, 999999999, 999999998, -1, -8, -999999999}
	times := 0
	for exp := api.MinExp; exp <= api.MaxExp; exp++ {
		for _, mant := range mants {
			f := hand("0 a", "r r1 1 0 1", "c c1 1 0 1", "l l1 1 0 1")
			for k := range f.Devs {
				f.Devs[k].Value = n(mant, exp)
			}
			ofIs(t, f, 0, rest(), 0, text(meant(f, 0, rest(), 0)))
			currentIs(t, f, 0, 0, text(meantCurrent(f, 0, 0)))
			for step := api.MinExp; step <= api.MaxExp; step += 1 + times%3 {
				s := api.Setting{Mode: api.Tran, Method: 1 + times%2, Step: n(mants[times%11], step)}
				k := 1 + times/2%2
				ofIs(t, f, k, s, 0, text(meant(f, k, s, 0)))
				times++
			}
		}
	}
	if times < 5000 {
		t.Error(times)
	}
}

// The longest quotients, by hand.
func TestTheLongestQuotients(t *testing.T) {
	f := hand("0 a", "c c1 1 0 999999999e9", "l l1 1 0 1e-18", "r r1 1 0 999999999e-18", "r r2 1 0 -4e9")
	ofIs(t, f, 0, trap("1e-18"), 0, "A 0 1 1, A 1 1 1, A 1 0 -1999999998000000000000000000000000000, H 1 0 -1999999998000000000000000000000000000, H 1 1 -1")
	ofIs(t, f, 1, euler("999999999e9"), 0, "A 0 2 1, A 2 0 1, A 2 2 -1/999999999000000000000000000000000000, H 2 2 -1/999999999000000000000000000000000000")
	ofIs(t, f, 1, trap("999999999e9"), 0, "A 0 2 1, A 2 0 1, A 2 2 -1/499999999500000000000000000000000000, H 2 2 -1/499999999500000000000000000000000000, H 2 0 -1")
	ofIs(t, f, 2, rest(), 0, "A 0 0 1000000000000000000/999999999")
	ofIs(t, f, 3, rest(), 0, "A 0 0 -1/4000000000")
}

// Sums are those of Vals, by their Kind and by the row or the unknown in which they stand.
type sums map[[2]int]api.Rat

func (s sums) add(kind, at int, val api.Rat) {
	was, there := s[[2]int{kind, at}]
	if !there {
		was = fraction(0, 1)
	}
	s[[2]int{kind, at}], _ = rat.Add(was, val)
}

// nought says whether all of the sums are 0.
func (s sums) nought() bool {
	for _, r := range s {
		if told(r) != "0" {
			return false
		}
	}
	return true
}

// away goes through the stamps of devices of which none is at the ground, of all kinds, in all settings and segments.
func away(t *testing.T, seed uint64, do func(f api.Flat, x api.Dev, l []api.Stamp) bool) {
	t.Helper()
	d := dice(seed)
	met := map[byte]int{}
	for range 1500 {
		f := d.flat(1)
		right(t, f)
		for k, x := range f.Devs {
			s, seg := d.setting(), d.segment(x)
			met[x.Kind]++
			l, err := stamp.Of(f, k, s, seg)
			if err != api.OK || len(l) < 2 || !do(f, x, l) {
				t.Fatalf("%v: Of %d, %v, %d: %s with error %d", f, k, s, seg, text(l), err)
			}
		}
	}
	enough(t, met, 300)
}

// P11.2: what leaves one node comes in at another: for each Col and Kind the rows of nodes sum up to 0.
func TestNothingIsLost(t *testing.T) {
	away(t, 112, func(f api.Flat, x api.Dev, l []api.Stamp) bool {
		s := sums{}
		for _, one := range l {
			if one.Row < len(f.Nodes)-1 {
				s.add(one.Kind, one.Col, one.Val)
			}
		}
		return len(s) > 0 && s.nought()
	})
}

// P11.3: only differences of voltages have a say: for each row the unknowns of nodes sum up to 0, of A and of H.
func TestDifferences(t *testing.T) {
	found := map[int]int{}
	away(t, 113, func(f api.Flat, x api.Dev, l []api.Stamp) bool {
		s := sums{}
		for _, one := range l {
			if (one.Kind == api.StampA || one.Kind == api.StampH) && one.Col < len(f.Nodes)-1 {
				s.add(one.Kind, one.Row, one.Val)
				found[one.Kind]++
			}
		}
		return s.nought()
	})
	if found[api.StampA] < 5000 || found[api.StampH] < 500 {
		t.Error(found)
	}
}

// inRow is what Current tells as it stands in a row.
func inRow(row int, l []api.Stamp) []string {
	var parts []string
	for _, x := range l {
		if x.Kind == api.StampS || x.Kind == api.StampK {
			x.Val, _ = rat.Sub(fraction(0, 1), x.Val)
		}
		x.Row = row
		parts = append(parts, text([]api.Stamp{x}))
	}
	return parts
}

// rowOf are the stamps in a row.
func rowOf(row int, l []api.Stamp) []string {
	var parts []string
	for _, x := range l {
		if x.Row == row {
			parts = append(parts, text([]api.Stamp{x}))
		}
	}
	return parts
}

// allIn says whether each of the parts is in the row, as often as among the parts.
func allIn(parts, row []string) bool {
	row = slices.Clone(row)
	for _, part := range parts {
		i := slices.Index(row, part)
		if i < 0 {
			return false
		}
		row = slices.Delete(row, i, i+1)
	}
	return true
}

// P11.4: what Current tells stands in A's row; and where A is none of the device's other nodes, nothing else does.
func TestCurrentsStandInTheRowOfA(t *testing.T) {
	d := dice(114)
	met := map[byte]int{}
	alone := map[byte]int{}
	for range 3000 {
		f := d.flat(0)
		for k, x := range f.Devs {
			if x.Nodes[0] == 0 {
				continue
			}
			s, seg, row := d.setting(), d.segment(x), x.Nodes[0]-1
			l, err := stamp.Of(f, k, s, seg)
			current, other := stamp.Current(f, k, seg)
			own, there := inRow(row, current), rowOf(row, l)
			met[x.Kind]++
			if err != api.OK || other != api.OK || !allIn(own, there) || slices.ContainsFunc(current, func(x api.Stamp) bool { return x.Row != 0 }) {
				t.Fatalf("%v: Of %d, %v, %d: %v with error %d; its current is %v with error %d", f, k, s, seg, there, err, own, other)
			}
			if slices.Contains(x.Nodes[1:], x.Nodes[0]) {
				continue
			}
			alone[x.Kind]++
			if !slices.Equal(own, there) {
				t.Fatalf("%v: Of %d, %v, %d: %v, but its current is %v", f, k, s, seg, there, own)
			}
		}
	}
	enough(t, met, 500)
	enough(t, alone, 200)
}

// A flat circuit's other devices have no say but by their branches: a resistor more behind all of them changes nothing.
func TestOtherDevicesHaveNoSay(t *testing.T) {
	d := dice(115)
	for range 500 {
		f := d.flat(0)
		more := with(f, "r more 0 1 1")
		right(t, more)
		for k, x := range f.Devs {
			s, seg := d.setting(), d.segment(x)
			ofIs(t, more, k, s, seg, text(meant(f, k, s, seg)))
			currentIs(t, more, k, seg, text(meantCurrent(f, k, seg)))
		}
	}
}
