package wave

import "shunt/api"

type pulse struct {
	low, high                        api.Num
	delay, rise, width, fall, period int
}

// pulseOf is w, which has as many Vals and Steps as a pulse.
func pulseOf(w api.Wave) pulse {
	s := w.Steps
	return pulse{w.Vals[0], w.Vals[1], s[0], s[1], s[2], s[3], s[4]}
}

func (p pulse) fitsPeriod() bool {
	return p.period >= 1 && p.fall <= p.period-p.rise-p.width
}

// within is how far into its period the step is, which isn't ahead of the delay.
func (p pulse) within(step int) int { return (step - p.delay) % p.period }

// pieceAt is where the step lies.
func (p pulse) pieceAt(step int) piece {
	if step < p.delay {
		return level(p.low)
	}
	t := p.within(step)
	falls := p.rise + p.width
	switch {
	case t < p.rise:
		return piece{p.low, p.high, t, p.rise}
	case t < falls:
		return level(p.high)
	case t < falls+p.fall:
		return piece{p.high, p.low, t - falls, p.fall}
	}
	return level(p.low)
}

// cornerAbove is the least corner above the step; the period's end is the next one's beginning.
func (p pulse) cornerAbove(step int) int {
	if step < p.delay {
		return p.delay
	}
	t := p.within(step)
	corner := p.period
	for _, c := range [...]int{p.rise + p.width + p.fall, p.rise + p.width, p.rise} {
		if c > t {
			corner = c
		}
	}
	return step - t + corner
}
