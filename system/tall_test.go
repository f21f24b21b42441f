package system_test

import (
	"testing"

	"shunt/api"
	"shunt/limb"
)

// A tall number is as long as it needs to be: right sides are held against it, for what leads to them is longer than layer
// 1 allows. It is written apart from the program: digits of 16 bits, the lowest first, each of which may be below 0 until
// they are settled.
type tall []int64

func tallOf(a api.Int) tall {
	var t tall
	for _, limb := range a.Limbs {
		t = append(t, int64(limb&0xffff), int64(limb>>16))
	}
	if a.Neg {
		return t.times(tall{-1})
	}
	return t
}

func small(v int64) tall { return tallOf(limb.Of(v)) }

func (t tall) plus(o tall) tall {
	out := make(tall, max(len(t), len(o)))
	copy(out, t)
	for i, digit := range o {
		out[i] += digit
	}
	return out.settled()
}

func (t tall) times(o tall) tall {
	out := make(tall, len(t)+len(o)+1)
	for i, a := range t {
		for j, b := range o {
			out[i+j] += a * b
		}
	}
	return out.settled()
}

// settled is t with digits from 0 on, but for the last one, which carries the sign.
func (t tall) settled() tall {
	out := append(append(tall{}, t...), 0)
	for i := range len(out) - 1 {
		digit := out[i] & 0xffff
		out[i+1] += (out[i] - digit) >> 16
		out[i] = digit
	}
	return out
}

// whole is t as a whole number of layer 1, of however many limbs.
func (t tall) whole() api.Int {
	t = t.settled()
	neg := t[len(t)-1] < 0
	if neg {
		t = t.times(tall{-1})
	}
	a := api.Int{Neg: neg}
	for i := 0; i < len(t); i += 2 {
		limb := uint32(t[i])
		if i+1 < len(t) {
			limb |= uint32(t[i+1]) << 16
		}
		a.Limbs = append(a.Limbs, limb)
	}
	for len(a.Limbs) > 0 && a.Limbs[len(a.Limbs)-1] == 0 {
		a.Limbs = a.Limbs[:len(a.Limbs)-1]
	}
	return a
}

// meantSide is the sum of H times prev, of S times src, and K, of however many limbs.
func meantSide(row api.Row, prev, src []int64) api.Int {
	t := tallOf(row.K)
	for _, c := range row.H {
		t = t.plus(tallOf(c.Val).times(small(prev[c.Col])))
	}
	for _, c := range row.S {
		t = t.plus(tallOf(c.Val).times(small(src[c.Col])))
	}
	return t.whole()
}

func TestTallNumbers(t *testing.T) {
	for _, v := range []int64{0, 1, -1, 65535, 65536, -65536, 1 << 32, -1 << 32, most, -most, 1<<63 - 1, -1 << 63} {
		if got := told(small(v).whole()); got != told(limb.Of(v)) {
			t.Errorf("%d is told as %s", v, got)
		}
		for _, w := range []int64{0, 1, -1, 7, -65537, most, -most} {
			sum, _ := limb.Add(limb.Of(v), limb.Of(w))
			product, _ := limb.Mul(limb.Of(v), limb.Of(w))
			if got := told(small(v).plus(small(w)).whole()); got != told(sum) {
				t.Errorf("%d + %d is told as %s", v, w, got)
			}
			if got := told(small(v).times(small(w)).whole()); got != told(product) {
				t.Errorf("%d times %d is told as %s", v, w, got)
			}
		}
	}
	next := tallOf(limbs(72)).plus(small(1)).whole()
	if len(next.Limbs) != 73 || next.Limbs[72] != 1 || next.Limbs[0] != 0 {
		t.Error(next)
	}
	if back := tallOf(next).plus(tallOf(minus(limbs(72)))).whole(); told(back) != "1" {
		t.Error(back)
	}
}
