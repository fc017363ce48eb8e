// Package bits is layer 1: see shared/doc/01-bits.md.
package bits

import "iter"

const (
	maxNumberBits = 32
	bitsPerByte   = 8
)

// Right reports whether every element of l is 0 or 1.
func Right(l []int) bool {
	for _, bit := range l {
		if bit != 0 && bit != 1 {
			return false
		}
	}
	return true
}

// Put returns n as a sequence of many bits, the most significant first.
// It returns false if many is not in 0..32 or n does not fit.
func Put(n int, many int) ([]int, bool) {
	// The width is judged first: a shift by a negative count would panic.
	if many < 0 || many > maxNumberBits || n < 0 || n >= 1<<many {
		return nil, false
	}
	l := make([]int, 0, many)
	for bit := range shifts(n, many) {
		l = append(l, bit)
	}
	return l, true
}

// Get returns the number whose bits, the most significant first, are l.
// It returns false if l is not valid or has more than 32 elements.
func Get(l []int) (int, bool) {
	if len(l) > maxNumberBits || !Right(l) {
		return 0, false
	}
	return number(l), true
}

// Spread returns the bits of b, each byte's most significant bit first.
func Spread(b []byte) []int {
	l := make([]int, 0, len(b)*bitsPerByte)
	for _, octet := range b {
		for bit := range shifts(int(octet), bitsPerByte) {
			l = append(l, bit)
		}
	}
	return l
}

// Join returns the bytes whose bits are l.
// It returns false if l is not valid or does not fill whole bytes.
func Join(l []int) ([]byte, bool) {
	if len(l)%bitsPerByte != 0 || !Right(l) {
		return nil, false
	}
	b := make([]byte, 0, len(l)/bitsPerByte)
	for at := 0; at < len(l); at += bitsPerByte {
		b = append(b, byte(number(l[at:at+bitsPerByte])))
	}
	return b, true
}

// shifts yields the lowest many bits of n, the most significant first.
func shifts(n int, many int) iter.Seq[int] {
	return func(yield func(int) bool) {
		for by := many - 1; by >= 0; by-- {
			if !yield(n >> by & 1) {
				return
			}
		}
	}
}

// number is the value of a sequence that its caller has found valid and short enough for an int.
func number(l []int) int {
	n := 0
	for _, bit := range l {
		n = n<<1 | bit
	}
	return n
}
