package topo

import "shunt/api"

// tiesAB says whether a device of that kind ties A to B. At rest nothing goes through a capacitor, whatever the voltage
// across it is.
func tiesAB(kind byte, mode int) bool {
	switch kind {
	case 'r', 'l', 'v', 'e', 'h', 't', 'd', 's':
		return true
	case 'c':
		return mode == api.Tran
	}
	return false
}

// tiesCD says whether a device of that kind ties C to D. A switch doesn't: the voltage from C to D chooses its segment, but
// stands in no equation.
func tiesCD(kind byte) bool {
	switch kind {
	case 'e', 'g', 't':
		return true
	}
	return false
}

// holdsAB says whether a device of that kind alone says what the voltage from A to B is, so that two beside one another say
// it twice. At rest an inductor does.
func holdsAB(kind byte, mode int) bool {
	switch kind {
	case 'v':
		return true
	case 'l':
		return mode == api.Op
	}
	return false
}
