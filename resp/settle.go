package resp

import "phaeton/api"

// settle applies step, from a number on, until its value no longer grows, and returns that value.
// step must never fall where its argument grows, and must not answer less than from for from:
// then what it ends at is its least fixed point from there on.
// There is none, and false, if the value grows beyond the longest busy period.
func settle(from int, step func(int) int) (int, bool) {
	at := from
grow:
	for {
		next := step(at)
		switch {
		case next > maxBusy:
			break grow
		case next == at:
			return at, true
		default:
			at = next
		}
	}
	return 0, false
}

// demand returns how many bits the streams have queued at most in a span of time.
func demand(l []api.Stream, span int) int {
	sum := 0
	for _, s := range l {
		sum += s.Bits * ceil(span+s.Jitter, s.Period)
	}
	return sum
}

// longest returns the number of bits of the longest frames, or 0 if there are no streams.
func longest(l []api.Stream) int {
	most := 0
	for _, s := range l {
		most = max(most, s.Bits)
	}
	return most
}

// ceil returns the least integer that, multiplied by b, is at least a, which is not negative.
func ceil(a, b int) int { return (a + b - 1) / b }
