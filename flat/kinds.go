package flat

// endsOf is how many nodes a device of that kind has; 0, if there is no such kind in a flat circuit.
func endsOf(kind byte) int {
	switch kind {
	case 'r', 'c', 'l', 'v', 'i', 'f', 'h', 'd':
		return 2
	case 'e', 'g', 't', 's':
		return 4
	}
	return 0
}

// hasBranch says whether the current through a device of that kind is an unknown.
func hasBranch(kind byte) bool {
	switch kind {
	case 'v', 'e', 'h', 'c', 'l', 't':
		return true
	}
	return false
}

// hasModel says whether a device of that kind has a model.
func hasModel(kind byte) bool { return kind == 'd' || kind == 's' }

// hasRef says whether a device of that kind leans on a voltage source's current.
func hasRef(kind byte) bool { return kind == 'f' || kind == 'h' }
