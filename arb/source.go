package arb

import (
	"phaeton/api"
	"phaeton/frame"
)

// field is the arbitration field of a frame.
type field []int

// bit returns the bit at a position, and true, or false if the field has ended before it.
func (f field) bit(position int) (int, bool) {
	if position >= len(f) {
		return 0, false
	}
	return f[position], true
}

// source is what is left of a frame in an arbitration: where its bits come from.
type source func(position int) (int, bool)

func sourcesOf(l []api.Frame) []source {
	sources := make([]source, 0, len(l))
	for _, f := range l {
		sources = append(sources, field(frame.Rank(f)).bit)
	}
	return sources
}

// bitsAt returns the bits that the competing frames have at a position; those that have ended have none.
func bitsAt(competing []source, position int) []int {
	bits := make([]int, 0, len(competing))
	for _, bitAt := range competing {
		if bit, has := bitAt(position); has {
			bits = append(bits, bit)
		}
	}
	return bits
}

// staying returns the frames that still compete after a position with that level, in the place of those that competed.
func staying(competing []source, position int, level int) []source {
	stay := competing[:0]
	for _, bitAt := range competing {
		if bit, has := bitAt(position); !has || bit == level {
			stay = append(stay, bitAt)
		}
	}
	// What stands behind them would hold on to fields that nobody reads any more.
	clear(competing[len(stay):])
	return stay
}
