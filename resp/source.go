package resp

import (
	"iter"
	"math"

	"phaeton/api"
)

// never is when a frame is queued that does not exist.
const never = math.MaxInt

// source is a stream in a simulation, with the earliest of its frames that was not transmitted yet.
type source struct {
	stream api.Stream
	until  int // frames that are due then or later do not exist
	number int
	due    int
	queued int
	worst  int // the longest time that a frame took
}

// bus has the sources that share it, in the order of priority.
type bus []source

func sources(l []api.Stream, begins []int, until int) bus {
	line := make(bus, len(l))
	for i, s := range l {
		line[i] = source{stream: s, until: until}
		line[i].bring(0, begins[i])
	}
	return line
}

// bring makes the frame with a number, which is due at a time, the earliest one.
func (s *source) bring(number, due int) {
	late := 0
	if number%2 == 1 {
		late = s.stream.Jitter
	}
	// s.queued is the previous frame's time still, ahead of which no other one is queued.
	s.number, s.due, s.queued = number, due, max(s.queued, due+late)
	if due >= s.until {
		s.queued = never
	}
}

// transmit transmits the earliest frame from a time on, and returns when that ends.
func (s *source) transmit(now int) int {
	end := now + s.stream.Bits
	s.worst = max(s.worst, end-s.due)
	s.bring(s.number+1, s.due+s.stream.Period)
	return end
}

// run transmits frames until there are no more.
func (b bus) run() {
	for now := b.wake(0); now != never; now = b.wake(now) {
		for i := range b.ready(now) {
			now = b[i].transmit(now)
			break
		}
	}
}

// wake returns the first time from now on at which a frame is queued, or never.
func (b bus) wake(now int) int {
	first := never
	for i := range b {
		if b[i].queued <= now {
			return now
		}
		first = min(first, b[i].queued)
	}
	return first
}

// ready yields the indices of the streams that have a queued frame at a time, those with higher priority first.
func (b bus) ready(now int) iter.Seq[int] {
	return func(yield func(int) bool) {
		for i := range b {
			if b[i].queued <= now && !yield(i) {
				return
			}
		}
	}
}

func (b bus) worst() []int {
	l := make([]int, len(b))
	for i, s := range b {
		l[i] = s.worst
	}
	return l
}
