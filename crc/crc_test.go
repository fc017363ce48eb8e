package crc

import (
	"hash/crc32"
	"math"
	"math/rand"
	"slices"
	"testing"
)

// The chapter's three registers, written out as its section 'Types' has them.

func plainBits(l []int) int {
	register := 0
	for _, bit := range l {
		x := bit ^ register>>14
		register = register << 1 & 0x7FFF
		if x == 1 {
			register ^= 0x4599
		}
	}
	return register
}

func plainByte(b []byte) int {
	register := 0xFF
	for _, octet := range b {
		register ^= int(octet)
		for range 8 {
			top := register & 0x80
			register = register << 1 & 0xFF
			if top != 0 {
				register ^= 0x1D
			}
		}
	}
	return ^register & 0xFF
}

func plainWord(b []byte) int {
	register := 0xFFFFFFFF
	for _, octet := range b {
		register ^= int(octet)
		for range 8 {
			low := register & 1
			register >>= 1
			if low != 0 {
				register ^= 0xEDB88320
			}
		}
	}
	return ^register & 0xFFFFFFFF
}

// row returns the lowest many bits of n, the most significant first.
func row(n, many int) []int {
	var l []int
	for by := many - 1; by >= 0; by-- {
		l = append(l, n>>by&1)
	}
	return l
}

func randomBits(r *rand.Rand, many int) []int {
	l := make([]int, many)
	for i := range l {
		l[i] = r.Intn(2)
	}
	return l
}

func randomBytes(r *rand.Rand, many int) []byte {
	b := make([]byte, many)
	r.Read(b)
	return b
}

var digits = []byte("123456789")

// P2.1, B1
func TestBits(t *testing.T) {
	for _, c := range []struct {
		name string
		l    []int
		want int
	}{
		{"nil", nil, 0},
		{"empty", []int{}, 0},
		{"a zero", []int{0}, 0},
		{"a one", []int{1}, 0x4599},
		{"a one and a zero", []int{1, 0}, 0x0B32 ^ 0x4599},
		{"two ones", []int{1, 1}, 0x0B32},
		{"leading zeros", []int{0, 0, 0, 1}, 0x4599},
		{"4096 zeros", make([]int, 4096), 0},
		{"the polynomial itself", row(1<<15|0x4599, 16), 0},
		{"the digits 1 to 9", spread(digits), 0x059E},
	} {
		if got := Bits(c.l); got != c.want {
			t.Errorf("%s: Bits is %#x, not %#x", c.name, got, c.want)
		}
	}
}

// spread returns the bits of b, each byte's most significant bit first.
func spread(b []byte) []int {
	var l []int
	for _, octet := range b {
		l = append(l, row(int(octet), 8)...)
	}
	return l
}

// P2.1, B1
func TestBitsOfEverySequence(t *testing.T) {
	for many := range 17 {
		for n := range 1 << many {
			l := row(n, many)
			if got, want := Bits(l), plainBits(l); got != want {
				t.Fatalf("Bits(%v) is %#x, not %#x", l, got, want)
			}
		}
	}
	r := rand.New(rand.NewSource(1))
	for many := range 300 {
		l := randomBits(r, many)
		if got, want := Bits(l), plainBits(l); got != want {
			t.Errorf("Bits(%v) is %#x, not %#x", l, got, want)
		}
	}
	l := randomBits(r, 4096)
	if got, want := Bits(l), plainBits(l); got != want {
		t.Errorf("Bits of 4096 bits is %#x, not %#x", got, want)
	}
}

// P2.1, B1
func TestByte(t *testing.T) {
	for _, c := range []struct {
		name string
		b    []byte
		want int
	}{
		{"nil", nil, 0},
		{"empty", []byte{}, 0},
		{"the digits 1 to 9", digits, 0x4B},
		{"0", []byte{0}, 0x3B},
		{"0xFF", []byte{0xFF}, 0xFF},
		{"four zeros", make([]byte, 4), 0x59},
		{"F2 01 83", []byte{0xF2, 0x01, 0x83}, 0x37},
		{"0F AA 00 55", []byte{0x0F, 0xAA, 0x00, 0x55}, 0x79},
		{"00 FF 55 11", []byte{0x00, 0xFF, 0x55, 0x11}, 0xB8},
	} {
		if got := Byte(c.b); got != c.want {
			t.Errorf("%s: Byte is %#x, not %#x", c.name, got, c.want)
		}
	}
}

// P2.1, B1
func TestWord(t *testing.T) {
	for _, c := range []struct {
		text string
		want int
	}{
		{"", 0},
		{"123456789", 0xCBF43926},
		{"a", 0xE8B7BE43},
		{"abc", 0x352441C2},
		{"\x00\x00\x00\x00", 0x2144DF1C},
		{"\xFF\xFF\xFF\xFF", 0xFFFFFFFF},
		{"The quick brown fox jumps over the lazy dog", 0x414FA339},
	} {
		if got := Word([]byte(c.text)); got != c.want {
			t.Errorf("%q: Word is %#x, not %#x", c.text, got, c.want)
		}
	}
	if got := Word(nil); got != 0 {
		t.Errorf("Word(nil) is %#x", got)
	}
}

// P2.1, B1: of one byte, of two, and of long slices
func TestByteAndWordAgainstPlain(t *testing.T) {
	check := func(b []byte) {
		t.Helper()
		if got, want := Byte(b), plainByte(b); got != want {
			t.Fatalf("Byte(%v) is %#x, not %#x", b, got, want)
		}
		if got, want := Word(b), plainWord(b); got != want || want != int(crc32.ChecksumIEEE(b)) {
			t.Fatalf("Word(%v) is %#x, not %#x", b, got, want)
		}
	}
	for n := range 256 {
		check([]byte{byte(n)})
		for m := range 256 {
			check([]byte{byte(n), byte(m)})
		}
	}
	r := rand.New(rand.NewSource(2))
	for many := range 200 {
		check(randomBytes(r, many))
		check(make([]byte, many))
	}
	check(randomBytes(r, 4095))
}

// P2.1, B2
func TestMore(t *testing.T) {
	for _, c := range []struct {
		name string
		sum  int
		b    []byte
		want int
	}{
		{"nothing and nothing", 0, nil, 0},
		{"nothing and digits", 0, digits, 0xCBF43926},
		{"digits and nothing", 0xCBF43926, nil, 0xCBF43926},
		{"digits and empty", 0xCBF43926, []byte{}, 0xCBF43926},
		{"a and bc", 0xE8B7BE43, []byte("bc"), 0x352441C2},
		{"greatest checksum", 1<<32 - 1, nil, 1<<32 - 1},
	} {
		if got := More(c.sum, c.b); got != c.want {
			t.Errorf("%s: More is %#x, not %#x", c.name, got, c.want)
		}
	}
}

// P2.1, B2: what stands above the lowest 32 bits of sum does not count
func TestMoreOfWideSum(t *testing.T) {
	for _, b := range [][]byte{nil, {0}, digits} {
		for _, low := range []int{0, 1, 5, 1 << 31, 0xCBF43926, 1<<32 - 1} {
			want := More(low, b)
			for _, high := range []int{1, 1 << 8, 1 << 30, 1<<31 - 1, -1, -1 << 31} {
				if got := More(high<<32|low, b); got != want {
					t.Errorf("More(%#x, %v) is %#x, not %#x", high<<32|low, b, got, want)
				}
			}
		}
	}
	for sum, want := range map[int]int{-1: 1<<32 - 1, math.MaxInt: 1<<32 - 1, math.MinInt: 0, 1 << 32: 0, -2: 1<<32 - 2} {
		if got := More(sum, nil); got != want {
			t.Errorf("More(%d, nil) is %#x, not %#x", sum, got, want)
		}
	}
}

// P2.2
func TestParts(t *testing.T) {
	r := rand.New(rand.NewSource(3))
	for many := range 40 {
		b := randomBytes(r, many)
		want := Word(b)
		for at := range many + 1 {
			if got := More(Word(b[:at]), b[at:]); got != want {
				t.Errorf("in two parts, cut at %d of %d: %#x, not %#x", at, many, got, want)
			}
			for later := at; later <= many; later++ {
				if got := More(More(Word(b[:at]), b[at:later]), b[later:]); got != want {
					t.Errorf("in three parts, cut at %d and %d of %d: %#x, not %#x", at, later, many, got, want)
				}
			}
		}
	}
	b := randomBytes(r, 1000)
	sum := 0
	for i := range b {
		sum = More(sum, b[i:i+1])
		if want := Word(b[:i+1]); sum != want {
			t.Fatalf("byte by byte, after %d: %#x, not %#x", i+1, sum, want)
		}
	}
}

// P2.3: every difference within a window of 15 bits
func TestBitsToldApart(t *testing.T) {
	r := rand.New(rand.NewSource(4))
	for _, c := range []struct{ many, at int }{{15, 0}, {16, 0}, {16, 1}, {100, 0}, {100, 43}, {100, 85}} {
		l := randomBits(r, c.many)
		want := Bits(l)
		for n := 1; n < 1<<15; n++ {
			other := slices.Clone(l)
			for i, bit := range row(n, 15) {
				other[c.at+i] ^= bit
			}
			if Bits(other) == want {
				t.Fatalf("Bits does not tell apart %v and %v", l, other)
			}
		}
	}
}

// highestFirstAt and lowestFirstAt tell in which byte, and where in it, a bit stands,
// numbered in the order in which the register of 8 bits or that of 32 consumes them.
func highestFirstAt(at int) (int, byte) { return at / 8, 0x80 >> (at % 8) }

func lowestFirstAt(at int) (int, byte) { return at / 8, 1 << (at % 8) }

// P2.3: every difference within a window of 8 bits
func TestByteToldApart(t *testing.T) {
	r := rand.New(rand.NewSource(5))
	for many := 1; many < 20; many++ {
		b := randomBytes(r, many)
		want := Byte(b)
		for at := range many*8 - 7 {
			for n := 1; n < 1<<8; n++ {
				other := slices.Clone(b)
				for i, bit := range row(n, 8) {
					octet, mask := highestFirstAt(at + i)
					other[octet] ^= mask * byte(bit)
				}
				if Byte(other) == want {
					t.Fatalf("Byte does not tell apart %v and %v", b, other)
				}
			}
		}
	}
}

// independent reports whether no exclusive or of some of sums is 0.
func independent(sums []int) bool {
	var base []int
	for _, sum := range sums {
		for _, have := range base {
			sum = min(sum, sum^have)
		}
		if sum == 0 {
			return false
		}
		base = append(base, sum)
	}
	return true
}

// P2.3: all differences within a window of 32 bits are too many to try, but a difference of some bits
// changes the checksum by the exclusive or of what each of them changes; so these must be independent.
func TestWordToldApart(t *testing.T) {
	r := rand.New(rand.NewSource(6))
	for many := 4; many < 20; many++ {
		b := randomBytes(r, many)
		want := Word(b)
		for at := range many*8 - 31 {
			var changes []int
			all, sum := slices.Clone(b), want
			for i := range 32 {
				octet, mask := lowestFirstAt(at + i)
				other := slices.Clone(b)
				other[octet] ^= mask
				change := Word(other) ^ want
				changes = append(changes, change)
				if r.Intn(2) == 1 || i == 0 {
					all[octet] ^= mask
					sum ^= change
				}
			}
			if !independent(changes) {
				t.Errorf("Word of %d bytes does not tell apart all within 32 bits from %d on", many, at)
			}
			if got := Word(all); got != sum || got == want {
				t.Errorf("Word of %d bytes, changed from bit %d on, is %#x, not %#x", many, at, got, sum)
			}
		}
	}
}

// P3: arguments stay as they were, and nothing is kept between calls
func TestNothingKept(t *testing.T) {
	l, b := []int{1, 0, 1, 1}, []byte{1, 2, 3}
	bits, octets := slices.Clone(l), slices.Clone(b)
	for range 3 {
		if Bits(l) != plainBits(bits) || Byte(b) != plainByte(octets) || Word(b) != plainWord(octets) || More(0, b) != plainWord(octets) {
			t.Error("a repeated call answers otherwise")
		}
	}
	if !slices.Equal(l, bits) || !slices.Equal(b, octets) {
		t.Error("an argument was changed", l, b)
	}
}
