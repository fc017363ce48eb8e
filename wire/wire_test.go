package wire

import (
	"bytes"
	"fmt"
	"math"
	"math/rand"
	"slices"
	"strings"
	"testing"

	"phaeton/api"
)

const (
	topShort = 1<<11 - 1
	topLong  = 1<<29 - 1
)

// row returns the bits that a text of digits and spaces has.
func row(text string) []int {
	l := []int{}
	for _, c := range strings.ReplaceAll(text, " ", "") {
		l = append(l, int(c-'0'))
	}
	return l
}

// text is row's inverse.
func text(l []int) string {
	var b strings.Builder
	for _, bit := range l {
		b.WriteByte('0' + byte(bit))
	}
	return b.String()
}

func same(a, b api.Frame) bool {
	return a.Ext == b.Ext && a.ID == b.ID && a.Remote == b.Remote && a.Len == b.Len && bytes.Equal(a.Data, b.Data)
}

func isZero(f api.Frame) bool { return same(f, api.Frame{}) }

// frameOf returns a frame with data bytes that tell places and directions apart, or none if it is remote.
func frameOf(ext bool, id int, remote bool, many int) api.Frame {
	f := api.Frame{Ext: ext, ID: id, Remote: remote, Len: many}
	if !remote {
		for i := range many {
			f.Data = append(f.Data, byte(0x1D*(i+1)+id))
		}
	}
	return f
}

// someFrames holds frames of both kinds, each length, remote and not, and such as have many inserted bits.
func someFrames() []api.Frame {
	var all []api.Frame
	for _, remote := range []bool{false, true} {
		for many := range 9 {
			for _, id := range []int{0, 1, 0x555, 0x7C1, topShort} {
				all = append(all, frameOf(false, id, remote, many))
			}
			for _, id := range []int{0, 1, 1 << 18, 0x0AAAAAAA, 0x1F07C1F0, topLong} {
				all = append(all, frameOf(true, id, remote, many))
			}
		}
	}
	for many := range 9 {
		for _, b := range []byte{0x00, 0xFF, 0x0F, 0xF8, 0x78, 0x87, 0xC3} {
			data := bytes.Repeat([]byte{b}, many)
			all = append(all, api.Frame{ID: int(b), Len: many, Data: data})
			all = append(all, api.Frame{Ext: true, ID: int(b) << 9, Len: many, Data: data})
		}
	}
	return all
}

func randomFrame(r *rand.Rand) api.Frame {
	f := api.Frame{Ext: r.Intn(2) == 1, ID: r.Intn(topShort + 1), Remote: r.Intn(4) == 0, Len: r.Intn(9)}
	if f.Ext {
		f.ID = r.Intn(topLong + 1)
	}
	if !f.Remote {
		// Some bytes come again and again, so that there are long runs.
		kinds := []byte{0x00, 0xFF, 0x07, 0xE0, byte(r.Intn(256))}
		for range f.Len {
			f.Data = append(f.Data, kinds[r.Intn(len(kinds))])
		}
	}
	return f
}

func randomBits(r *rand.Rand, many int) []int {
	l := make([]int, many)
	for i := range l {
		l[i] = r.Intn(2)
	}
	return l
}

// The chapter, and what it takes from the layers below, written out on texts and without their functions.

func plainHead(f api.Frame) string {
	remote := 0
	if f.Remote {
		remote = 1
	}
	head := fmt.Sprintf("0%011b%d00%04b", f.ID, remote, f.Len)
	if f.Ext {
		head = fmt.Sprintf("0%011b11%018b%d00%04b", f.ID>>18, f.ID%(1<<18), remote, f.Len)
	}
	for _, b := range f.Data {
		head += fmt.Sprintf("%08b", b)
	}
	return head
}

// plainSum is what a division of the bits and fifteen 0s leaves.
func plainSum(head string) string {
	const divisor = "1100010110011001"
	rest := []byte(head + strings.Repeat("0", 15))
	for at := range head {
		if rest[at] == '1' {
			for i := range divisor {
				rest[at+i] ^= divisor[i] - '0'
			}
		}
	}
	return string(rest[len(head):])
}

func plainStuffed(f api.Frame) string {
	head, out := plainHead(f), ""
	for _, c := range head + plainSum(head) {
		out += string(c)
		if strings.HasSuffix(out, "00000") {
			out += "1"
		} else if strings.HasSuffix(out, "11111") {
			out += "0"
		}
	}
	return out
}

// sentForm and heardForm are the transmitted and the received form of a frame.
func sentForm(f api.Frame) []int  { return row(plainStuffed(f) + "1 1 1 1111111") }
func heardForm(f api.Frame) []int { return row(plainStuffed(f) + "1 0 1 1111111") }

// strip returns the plain bits of l up to the first wrong inserted bit, where each of them stands in l,
// and where and with which fault they end.
func strip(l []int) (plain, places []int, fault, at int) {
	run := 0
	for at, bit := range l {
		follows := at > 0 && l[at-1] == bit
		switch {
		case run == 5 && follows:
			return plain, places, api.StuffFault, at
		case run != 5:
			plain, places = append(plain, bit), append(places, at)
		}
		if !follows {
			run = 0
		}
		run++
	}
	return plain, places, api.ShortFault, len(l)
}

// wrongPlace returns the first of the plain bits that no header may have, or -1, and how many bits the header needs.
func wrongPlace(plain []int) (wrong, need int) {
	is := func(at, bit int) bool { return at < len(plain) && plain[at] == bit }
	ext := is(13, 1)
	fixed, length := []int{0, 14}, 15
	if ext {
		fixed, length = []int{0, 33, 34}, 35
	}
	if is(0, 1) {
		return 0, 0
	}
	if ext && is(12, 0) {
		return 13, 0
	}
	for _, at := range fixed {
		if is(at, 1) {
			return at, 0
		}
	}
	if len(plain) < length+4 {
		return -1, length + 4
	}
	many := plain[length]*8 + plain[length+1]*4 + plain[length+2]*2 + plain[length+3]
	if many > 8 {
		return length + 3, 0
	}
	if plain[length-3] == 1 && !ext || ext && plain[32] == 1 {
		many = 0
	}
	return -1, length + 4 + 8*many
}

// plainFrame returns the frame of a whole header.
func plainFrame(head string) api.Frame {
	var f api.Frame
	var upper, lower int
	var remote string
	rest := head[19:]
	if f.Ext = head[13] == '1'; f.Ext {
		fmt.Sscanf(head[1:12]+" "+head[14:32], "%b %b", &upper, &lower)
		f.ID, remote, rest = upper<<18+lower, head[32:33], head[39:]
		fmt.Sscanf(head[35:39], "%b", &f.Len)
	} else {
		fmt.Sscanf(head[1:12], "%b", &f.ID)
		remote = head[12:13]
		fmt.Sscanf(head[15:19], "%b", &f.Len)
	}
	f.Remote = remote == "1"
	for ; rest != ""; rest = rest[8:] {
		var b byte
		fmt.Sscanf(rest[:8], "%b", &b)
		f.Data = append(f.Data, b)
	}
	return f
}

// plainRead looks for each fault in turn, where Read goes from bit to bit.
func plainRead(l []int) (api.Frame, int, int) {
	plain, places, endFault, endAt := strip(l)
	wrong, need := wrongPlace(plain)
	if wrong >= 0 {
		return api.Frame{}, api.FormFault, places[wrong]
	}
	if len(plain) < need+15 {
		return api.Frame{}, endFault, endAt
	}
	last := places[need+14]
	if tail := text(l[:last+1]); strings.HasSuffix(tail, "00000") || strings.HasSuffix(tail, "11111") {
		last++
		if last == len(l) {
			return api.Frame{}, api.ShortFault, last
		}
		if l[last] == l[last-1] {
			return api.Frame{}, api.StuffFault, last
		}
	}
	head := text(plain[:need])
	if plainSum(head) != text(plain[need:need+15]) {
		return api.Frame{}, api.CrcFault, last
	}
	for at := last + 1; at <= last+10; at++ {
		if at == len(l) {
			return api.Frame{}, api.ShortFault, at
		}
		if at != last+2 && l[at] == 0 {
			return api.Frame{}, api.FormFault, at
		}
	}
	if l[last+2] == 1 {
		return plainFrame(head), api.AckFault, last + 2
	}
	return plainFrame(head), api.NoFault, -1
}

// checkRead compares Read with plainRead, and returns the fault.
func checkRead(t *testing.T, l []int) int {
	t.Helper()
	f, fault, at := Read(l)
	wantFrame, wantFault, wantAt := plainRead(l)
	if !same(f, wantFrame) || fault != wantFault || at != wantAt {
		t.Fatalf("Read(%s) = %v, %d, %d; want %v, %d, %d", text(l), f, fault, at, wantFrame, wantFault, wantAt)
	}
	return fault
}

func TestBitsExamples(t *testing.T) { // P5.1, E1
	tests := []struct {
		f    api.Frame
		want string
	}{
		// Without data the checksum of identifier 0 is 0, too: 34 bits 0 in a row.
		{api.Frame{}, "000001 000001 000001 000001 000001 000001 0000" + "1 1 1 1111111"},
		// The header 0 00000000001 0 0 0 0000 has the checksum 010001000010011.
		{api.Frame{ID: 1}, "000001 000001 0 1 000001 000 1 000 1 0000 1 00 11" + "1 1 1 1111111"},
	}
	for _, test := range tests {
		got := Bits(test.f)
		if !slices.Equal(got, row(test.want)) {
			t.Errorf("Bits(%v) = %s, want %s", test.f, text(got), test.want)
		}
	}
}

func TestBitsAndLength(t *testing.T) { // P5.1, E1
	check := func(f api.Frame) {
		want := sentForm(f)
		if got := Bits(f); !slices.Equal(got, want) {
			t.Fatalf("Bits(%v) = %s, want %s", f, text(got), text(want))
		}
		if got := Length(f); got != len(want) {
			t.Fatalf("Length(%v) = %d, want %d", f, got, len(want))
		}
	}
	for _, f := range someFrames() {
		check(f)
	}
	for id := range topShort + 1 {
		check(api.Frame{ID: id})
	}
	r := rand.New(rand.NewSource(1))
	for range 2000 {
		check(randomFrame(r))
	}
}

func TestMost(t *testing.T) { // P5.1, E1
	short := []int{52, 62, 72, 82, 92, 102, 112, 122, 132}
	long := []int{77, 87, 97, 107, 117, 127, 137, 147, 157}
	for n := range 9 {
		if got := Most(false, n); got != short[n] {
			t.Errorf("Most(false, %d) = %d, want %d", n, got, short[n])
		}
		if got := Most(true, n); got != long[n] {
			t.Errorf("Most(true, %d) = %d, want %d", n, got, long[n])
		}
	}
}

func TestReadExamples(t *testing.T) { // P5.1, E2
	// The stuffed part of identifier 1: 34 bits, and 3 inserted ones.
	const stuffed = "000001 000001 0 1 000001 000 1 000 1 0000 1 00 11"
	one := api.Frame{ID: 1}
	tests := []struct {
		name  string
		l     string
		f     api.Frame
		fault int
		at    int
	}{
		{"received", stuffed + "1 0 1 1111111", one, api.NoFault, -1},
		{"more bits follow", stuffed + "1 0 1 1111111 00000000", one, api.NoFault, -1},
		{"transmitted", stuffed + "1 1 1 1111111", one, api.AckFault, 38},
		{"nothing", "", api.Frame{}, api.ShortFault, 0},
		{"ends behind the stuffed part", stuffed, api.Frame{}, api.ShortFault, 37},
		{"ends ahead of the acknowledgement slot", stuffed + "1", api.Frame{}, api.ShortFault, 38},
		{"ends behind the acknowledgement slot", stuffed + "1 1", api.Frame{}, api.ShortFault, 39},
		{"last bit is missing", stuffed + "1 1 1 111111", api.Frame{}, api.ShortFault, 46},
		{"first bit 1", "1", api.Frame{}, api.FormFault, 0},
		{"delimiter 0", stuffed + "0 0 1 1111111", api.Frame{}, api.FormFault, 37},
		{"delimiter of the acknowledgement 0", stuffed + "1 0 0 1111111", api.Frame{}, api.FormFault, 39},
		{"last bit 0", stuffed + "1 0 1 1111110", api.Frame{}, api.FormFault, 46},
		{"last bit 0 and not acknowledged", stuffed + "1 1 1 1111110", api.Frame{}, api.FormFault, 46},
		{"first inserted bit wrong", "000000", api.Frame{}, api.StuffFault, 5},
		{"last bit of the checksum", "000001 000001 0 1 000001 000 1 000 1 0000 1 00 10" + "1 0 1 1111111", api.Frame{}, api.CrcFault, 36},
		{"delimiter wrong as well", "000001 000001 0 1 000001 000 1 000 1 0000 1 00 10" + "0", api.Frame{}, api.CrcFault, 36},
		{"bit ahead of Len", "000001 000001 0 1 001", api.Frame{}, api.FormFault, 16},
		{"extended without the bit 1", "000001 000001 0 1 01", api.Frame{}, api.FormFault, 15},
		{"Len 9", "000001 000001 0 1 0001001", api.Frame{}, api.FormFault, 20},
	}
	for _, test := range tests {
		f, fault, at := Read(row(test.l))
		if !same(f, test.f) || fault != test.fault || at != test.at {
			t.Errorf("%s: %v, %d, %d; want %v, %d, %d", test.name, f, fault, at, test.f, test.fault, test.at)
		}
	}
	if f, fault, at := Read(nil); !isZero(f) || fault != api.ShortFault || at != 0 {
		t.Errorf("Read(nil) = %v, %d, %d", f, fault, at)
	}
}

// insertedLast holds frames whose checksum completes five equal bits, 0s and 1s, so that an inserted bit ends their stuffed part.
func insertedLast(t *testing.T) []api.Frame {
	var all []api.Frame
	for _, end := range []string{"000001", "111110"} {
		many := 0
		for id := 0; id <= topShort && many < 4; id++ {
			for _, f := range []api.Frame{{ID: id}, {Ext: true, ID: id << 7, Len: 1, Data: []byte{3}}} {
				if strings.HasSuffix(plainHead(f)+plainSum(plainHead(f)), end[:5]) && strings.HasSuffix(plainStuffed(f), end) {
					all = append(all, f)
					many++
				}
			}
		}
		if many < 4 {
			t.Fatalf("only %d frames end with %s", many, end)
		}
	}
	return all
}

func TestInsertedBitBehindTheChecksum(t *testing.T) { // P5.1, E2
	for _, f := range insertedLast(t) {
		l := heardForm(f)
		last := len(l) - 11
		if got, fault, at := Read(l); !same(got, f) || fault != api.NoFault || at != -1 {
			t.Errorf("%s: %v, %d, %d", text(l), got, fault, at)
		}
		if got, fault, at := Read(l[:last]); !isZero(got) || fault != api.ShortFault || at != last {
			t.Errorf("%s, inserted bit missing: %v, %d, %d", text(l), got, fault, at)
		}
		if got, fault, at := Read(l[:last+1]); !isZero(got) || fault != api.ShortFault || at != last+1 {
			t.Errorf("%s, trailing bits missing: %v, %d, %d", text(l), got, fault, at)
		}
		x := slices.Clone(l)
		x[last] ^= 1
		if got, fault, at := Read(x); !isZero(got) || fault != api.StuffFault || at != last {
			t.Errorf("%s, inserted bit wrong: %v, %d, %d", text(l), got, fault, at)
		}
	}
}

func TestChecksumIsJudgedAtTheLastBit(t *testing.T) { // P5.1, E2
	// A header that needs no inserted bit ahead of its checksum, and checksums that are not its own.
	head := plainHead(api.Frame{ID: 0x555, Remote: true, Len: 5})
	tests := []struct {
		sum   string
		fault int
		at    int
	}{
		{"010101010101010" + "1", api.CrcFault, len(head) + 14},
		{"010101010100000" + "1", api.CrcFault, len(head) + 15},
		{"010101010111111" + "0", api.StuffFault, len(head) + 14},
		{"010101010011111" + "0", api.CrcFault, len(head) + 15},
		{"010101010011111" + "1", api.StuffFault, len(head) + 15},
		{"010101010011111", api.ShortFault, len(head) + 15},
		{"01010101001111", api.ShortFault, len(head) + 14},
	}
	for _, test := range tests {
		if f, fault, at := Read(row(head + test.sum)); !isZero(f) || fault != test.fault || at != test.at {
			t.Errorf("%s: %v, %d, %d; want %d, %d", test.sum, f, fault, at, test.fault, test.at)
		}
	}
}

func TestReadCut(t *testing.T) { // P5.1, E2
	for _, f := range append(someFrames(), insertedLast(t)...) {
		for _, l := range [][]int{sentForm(f), heardForm(f)} {
			for end := range l {
				if got, fault, at := Read(l[:end]); !isZero(got) || fault != api.ShortFault || at != end {
					t.Fatalf("Read(%s) = %v, %d, %d", text(l[:end]), got, fault, at)
				}
			}
		}
	}
}

func TestReadFlipped(t *testing.T) { // P5.1, E2
	faults := map[int]int{}
	for _, f := range append(someFrames(), insertedLast(t)...) {
		heard := heardForm(f)
		for at := range heard {
			l := slices.Clone(heard)
			l[at] ^= 1
			faults[checkRead(t, l)]++
			// A bit that is lost, and one that comes twice, move all that follow.
			faults[checkRead(t, slices.Delete(slices.Clone(heard), at, at+1))]++
			faults[checkRead(t, slices.Insert(slices.Clone(heard), at, heard[at]))]++
		}
	}
	for _, fault := range []int{api.ShortFault, api.StuffFault, api.FormFault, api.CrcFault, api.AckFault} {
		if faults[fault] == 0 {
			t.Errorf("fault %d never occurred", fault)
		}
	}
}

func TestReadSeveralFlipped(t *testing.T) { // P5.1, E2
	r := rand.New(rand.NewSource(2))
	for range 10000 {
		l := append(heardForm(randomFrame(r)), randomBits(r, r.Intn(20))...)
		for range 1 + r.Intn(6) {
			l[r.Intn(len(l))] ^= 1
		}
		checkRead(t, l)
	}
}

func TestReadOfAnyBits(t *testing.T) { // P5.1, E2
	for many := range 13 {
		for n := range 1 << many {
			l := make([]int, many)
			for i := range l {
				l[i] = n >> i & 1
			}
			checkRead(t, l)
		}
	}
	r := rand.New(rand.NewSource(3))
	for range 20000 {
		l := randomBits(r, r.Intn(200))
		if len(l) > 0 {
			l[0] = 0
		}
		checkRead(t, l)
	}
	checkRead(t, make([]int, api.MaxBits))
	checkRead(t, slices.Repeat([]int{0, 1}, api.MaxBits/2))
}

func TestThereAndBack(t *testing.T) { // P5.2
	r := rand.New(rand.NewSource(4))
	check := func(f api.Frame) {
		sent := Bits(f)
		heard := slices.Clone(sent)
		heard[len(heard)-9] = 0
		for _, tail := range [][]int{nil, {0}, {1}, make([]int, 40), slices.Repeat([]int{1}, 40), sent, randomBits(r, 50)} {
			if got, fault, at := Read(slices.Concat(heard, tail)); !same(got, f) || fault != api.NoFault || at != -1 {
				t.Fatalf("received %v, then %s: %v, %d, %d", f, text(tail), got, fault, at)
			}
			if got, fault, at := Read(slices.Concat(sent, tail)); !same(got, f) || fault != api.AckFault || at != len(sent)-9 {
				t.Fatalf("transmitted %v, then %s: %v, %d, %d", f, text(tail), got, fault, at)
			}
		}
	}
	for _, f := range append(someFrames(), insertedLast(t)...) {
		check(f)
	}
	for range 1000 {
		check(randomFrame(r))
	}
}

func TestNoSix(t *testing.T) { // P5.3
	check := func(f api.Frame) {
		l := Bits(f)
		stuffed := text(l[:len(l)-10])
		if strings.Contains(stuffed, "000000") || strings.Contains(stuffed, "111111") {
			t.Fatalf("Bits(%v) = %s", f, text(l))
		}
		many := len(f.Data)
		if most := Most(f.Ext, many); len(l) > most || Length(f) > most {
			t.Fatalf("%v has %d bits, more than %d", f, len(l), most)
		}
	}
	for _, f := range someFrames() {
		check(f)
	}
	for id := range topShort + 1 {
		check(api.Frame{ID: id})
		check(api.Frame{ID: id, Remote: true, Len: id % 9})
		check(api.Frame{ID: id, Len: 2, Data: []byte{byte(id), 0}})
	}
	r := rand.New(rand.NewSource(5))
	for range 5000 {
		check(randomFrame(r))
	}
}

func TestWrongArgumentsDoNotPanic(t *testing.T) { // P1
	for _, id := range []int{-1, math.MinInt, math.MaxInt, topShort + 1, topLong + 1} {
		for _, many := range []int{-1, 9, 16, math.MinInt, math.MaxInt} {
			for _, f := range []api.Frame{{ID: id, Len: many}, {Ext: true, ID: id, Len: many, Data: make([]byte, 40)}} {
				Bits(f)
				Length(f)
			}
			Most(false, many)
			Most(true, many)
		}
	}
	for _, f := range someFrames()[:40] {
		heard := heardForm(f)
		for at := range heard {
			for _, wrong := range []int{2, -1, math.MaxInt, math.MinInt} {
				l := slices.Clone(heard)
				l[at] = wrong
				Read(l)
			}
		}
	}
}

func TestArgumentsStayAndAnswersAreNew(t *testing.T) { // P3
	for _, f := range someFrames() {
		was := bytes.Clone(f.Data)
		l := Bits(f)
		kept := slices.Clone(l)
		got, fault, at := Read(l)
		if !slices.Equal(l, kept) || !bytes.Equal(f.Data, was) {
			t.Fatalf("%v: an argument was changed", f)
		}
		clear(l)
		if !same(got, f) {
			t.Fatalf("%v: the frame that was read changed with its bits", f)
		}
		if !slices.Equal(Bits(f), kept) {
			t.Fatalf("%v: a second call of Bits answers otherwise", f)
		}
		clear(got.Data)
		again, fault2, at2 := Read(kept)
		if !same(again, f) || fault2 != fault || at2 != at {
			t.Fatalf("%v: a second call of Read answers otherwise", f)
		}
	}
}
