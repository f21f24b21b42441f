package num

import (
	"strconv"
	"strings"

	"shunt/api"
)

// maxBytes bounds the texts that are read.
const maxBytes = 32

// A reading is what a text of the forms says: its digits, the point left out, times ten to the power exp.
type reading struct {
	neg    bool
	digits string
	exp    int
}

// read takes a text apart, if it is of the forms.
func read(s string) (reading, bool) {
	if len(s) > maxBytes {
		return reading{}, false
	}
	rest, neg := strings.CutPrefix(s, "-")
	ahead, rest := cutDigits(rest)
	rest, point := strings.CutPrefix(rest, ".")
	behind := ""
	if point {
		behind, rest = cutDigits(rest)
	}
	exp, ok := power(rest)
	if !ok || ahead == "" || point && behind == "" {
		return reading{}, false
	}
	return reading{neg: neg, digits: ahead + behind, exp: exp - len(behind)}, true
}

// power is the power of ten that stands behind the digits.
func power(s string) (int, bool) {
	if l, ok := letterNamed(s); ok {
		return l.exp, true
	}
	rest, ok := strings.CutPrefix(s, "e")
	rest, neg := strings.CutPrefix(rest, "-")
	if !neg {
		rest = strings.TrimPrefix(rest, "+")
	}
	digits, rest := cutDigits(rest)
	if !ok || rest != "" || len(digits) < 1 || len(digits) > 2 {
		return 0, false
	}
	exp, _ := strconv.Atoi(digits)
	if neg {
		exp = -exp
	}
	return exp, true
}

// cutDigits cuts s behind the digits at its beginning.
func cutDigits(s string) (digits, rest string) {
	n := 0
	for n < len(s) && '0' <= s[n] && s[n] <= '9' {
		n++
	}
	return s[:n], s[n:]
}

// number is the right number of what was read, if there is one. The noughts behind go into the power first, for the
// digits may be far too many with them.
func (r reading) number() (api.Num, bool) {
	digits := strings.TrimRight(r.digits, "0")
	if digits == "" {
		return api.Num{}, true
	}
	mant, err := strconv.ParseInt(digits, 10, 64)
	if r.neg {
		mant = -mant
	}
	n := api.Num{Mant: mant, Exp: r.exp + len(r.digits) - len(digits)}
	return n, err == nil && Valid(n)
}
