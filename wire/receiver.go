package wire

import (
	"phaeton/api"
	"phaeton/bits"
	"phaeton/crc"
	"phaeton/frame"
	"phaeton/stuff"
)

// full is the number of equal bits that an inserted bit follows.
const full = 5

// receiver consumes the bits of a frame one by one.
type receiver struct {
	// heard is the stuffed part so far, and plain the same without the inserted bits.
	heard []int
	plain []int
	// head is how many of the plain bits are the header of frame; it is 0 till the header is complete.
	head  int
	frame api.Frame
	// trailed is how many trailing bits were consumed.
	trailed int
}

// stuffed consumes a bit of the stuffed part, and returns the fault that is detected at it.
func (r *receiver) stuffed(bit int) int {
	inserted := r.due()
	if inserted && bit == r.heard[len(r.heard)-1] {
		return api.StuffFault
	}
	r.heard = append(r.heard, bit)
	if !inserted {
		r.plain = append(r.plain, bit)
	}
	switch {
	case !r.formed():
		return api.FormFault
	case r.whole() && !r.checked():
		return api.CrcFault
	}
	return api.NoFault
}

// trailing consumes a trailing bit, and returns the fault that is detected at it.
func (r *receiver) trailing(bit int) int {
	place := r.trailed
	r.trailed++
	if place != ackPlace && bit != 1 {
		return api.FormFault
	}
	return api.NoFault
}

// due reports whether the next bit of the stuffed part is an inserted one.
func (r *receiver) due() bool {
	before := len(r.heard) - full
	return before >= 0 && stuff.Runs(r.heard[before:]) == full
}

// formed reports whether the plain bits are a header, whose frame it keeps, or may become one.
func (r *receiver) formed() bool {
	if r.head > 0 {
		return true
	}
	f, many, err := frame.Read(r.plain)
	if err == api.OK {
		r.frame, r.head = f, many
	}
	return err == api.OK || err == api.ErrShort
}

// whole reports whether the stuffed part has ended: an inserted bit behind the checksum belongs to it.
func (r *receiver) whole() bool {
	return r.head > 0 && len(r.plain) == r.head+sumBits && !r.due()
}

// checked reports whether the checksum of a whole stuffed part is that of its header.
func (r *receiver) checked() bool {
	sum, valid := bits.Get(r.plain[r.head:])
	return valid && sum == crc.Bits(r.plain[:r.head])
}
