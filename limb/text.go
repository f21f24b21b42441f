package limb

import (
	"strconv"
	"strings"

	"shunt/api"
)

const (
	maxParse   = 1024
	group      = 1000000000
	groupWidth = 9
)

// Text writes a in decimal digits.
func Text(a api.Int) (string, api.Errno) {
	if Check(a) != api.OK {
		return "", api.ErrInt
	}
	if len(a.Limbs) == 0 {
		return "0", api.OK
	}
	var text []byte
	if a.Neg {
		text = append(text, '-')
	}
	groups := groupsOf(a.Limbs)
	last := len(groups) - 1
	text = strconv.AppendUint(text, uint64(groups[last]), 10)
	for i := last - 1; i >= 0; i-- {
		text = appendGroup(text, groups[i])
	}
	return string(text), api.OK
}

// groupsOf tells the digits in groups of nine, the lowest first.
func groupsOf(m []uint32) []uint32 {
	var groups []uint32
	for rest := duplicate(m); len(rest) > 0; rest = trim(rest) {
		groups = append(groups, divideSmall(rest, group))
	}
	return groups
}

// appendGroup writes all nine digits, the noughts ahead too.
func appendGroup(text []byte, g uint32) []byte {
	for unit := uint32(group / 10); unit > 0; unit /= 10 {
		text = append(text, byte('0'+g/unit%10))
	}
	return text
}

// Parse reads what Text writes.
func Parse(s string) (api.Int, api.Errno) {
	if len(s) > maxParse {
		return api.Int{}, api.ErrLong
	}
	digits, neg := strings.CutPrefix(s, "-")
	if !plain(digits) || neg && digits == "0" {
		return api.Int{}, api.ErrText
	}
	return answer(neg, magnitudeOf(digits))
}

// plain says whether s is digits, with no nought ahead but that of 0 itself.
func plain(s string) bool {
	if s == "" || s[0] == '0' && len(s) > 1 {
		return false
	}
	for i := range len(s) {
		if s[i] < '0' || s[i] > '9' {
			return false
		}
	}
	return true
}

// magnitudeOf reads plain digits, the first group shorter where they don't come out even.
func magnitudeOf(digits string) []uint32 {
	var m []uint32
	var g uint32
	for i := range len(digits) {
		g = g*10 + uint32(digits[i]-'0')
		if (len(digits)-i-1)%groupWidth == 0 {
			m = appendDigits(m, g)
			g = 0
		}
	}
	return m
}

// appendDigits is m with a group behind its digits, in place where there is room.
func appendDigits(m []uint32, g uint32) []uint32 {
	carry := uint64(g)
	for i := range m {
		carry += uint64(m[i]) * group
		m[i] = uint32(carry)
		carry >>= 32
	}
	if carry > 0 {
		m = append(m, uint32(carry))
	}
	return m
}
