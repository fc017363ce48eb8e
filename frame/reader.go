package frame

import (
	"phaeton/api"
	"phaeton/bits"
)

// reader consumes the bits of l one by one; at is how many it has consumed.
// Its methods panic with an api.Errno at the first bit that is missing or wrong.
type reader struct {
	l  []int
	at int
}

// next consumes a bit.
// An element that is no bit is refused, so that what is made of the consumed ones always fits.
func (r *reader) next() int {
	if r.at == len(r.l) {
		panic(api.ErrShort)
	}
	bit := r.l[r.at]
	if bit != 0 && bit != 1 {
		panic(api.ErrForm)
	}
	r.at++
	return bit
}

// zero consumes a bit that must be 0.
func (r *reader) zero() {
	if r.next() != 0 {
		panic(api.ErrForm)
	}
}

func (r *reader) take(many int) []int {
	l := make([]int, 0, many)
	for range many {
		l = append(l, r.next())
	}
	return l
}

func (r *reader) number(many int) int {
	n, _ := bits.Get(r.take(many))
	return n
}

func (r *reader) frame() api.Frame {
	r.zero()
	f := r.named()
	r.zero()
	f.Len = r.number(lenBits)
	if f.Len > maxLen {
		panic(api.ErrLen)
	}
	if !f.Remote {
		f.Data, _ = bits.Join(r.take(f.Len * byteBits))
	}
	return f
}

// named consumes the bits from the identifier to the one ahead of the last fixed 0,
// which is the first bit that frames of both kinds have in common again.
func (r *reader) named() api.Frame {
	upper := r.number(upperBits)
	before := r.next()
	// Only this bit tells what the one before it was, so that one is judged after it.
	if r.next() == 0 {
		return api.Frame{ID: upper, Remote: before == 1}
	}
	if before != 1 {
		panic(api.ErrForm)
	}
	lower := r.number(lowerBits)
	f := api.Frame{Ext: true, ID: upper<<lowerBits | lower, Remote: r.next() == 1}
	r.zero()
	return f
}
