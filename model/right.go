package model

import (
	"slices"

	"shunt/api"
	"shunt/num"
)

// isName says whether s is a name.
func isName(s string) bool {
	if len(s) < 1 || len(s) > api.MaxName {
		return false
	}
	return !slices.ContainsFunc([]byte(s), func(b byte) bool { return !isNameByte(b) })
}

func isNameByte(b byte) bool {
	return 'a' <= b && b <= 'z' || '0' <= b && b <= '9' || b == '_'
}

// fits says whether m has as many G and V as its Kind asks for.
func fits(m api.Model) bool {
	switch m.Kind {
	case 'd':
		return len(m.G) == len(m.V)+1 && len(m.G) <= api.MaxSegs
	case 's':
		return len(m.G) == 2 && len(m.V) == 1
	}
	return false
}

func allRight(list []api.Num) bool {
	return !slices.ContainsFunc(list, func(n api.Num) bool { return !num.Valid(n) })
}

// rising says whether each of the right numbers is greater than the one ahead.
func rising(list []api.Num) bool {
	for i := range len(list) - 1 {
		if order, _ := num.Cmp(list[i], list[i+1]); order >= 0 {
			return false
		}
	}
	return true
}
