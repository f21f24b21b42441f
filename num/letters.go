package num

// A letter says a power of ten.
type letter struct {
	name string
	exp  int
}

// letters rise; no letter at all says the power 0.
var letters = [...]letter{
	{"f", -15}, {"p", -12}, {"n", -9}, {"u", -6}, {"m", -3}, {"", 0}, {"k", 3}, {"meg", 6}, {"g", 9}, {"t", 12},
}

// letterBelow is the greatest letter whose power is exp at most. No right number's Exp comes up to the t.
func letterBelow(exp int) (letter, bool) {
	found, ok := letter{}, false
	for _, l := range letters {
		if l.exp <= exp {
			found, ok = l, true
		}
	}
	return found, ok
}

func letterNamed(name string) (letter, bool) {
	for _, l := range letters {
		if l.name == name {
			return l, true
		}
	}
	return letter{}, false
}
