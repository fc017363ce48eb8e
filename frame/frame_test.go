package frame

import (
	"bytes"
	"math"
	"math/rand"
	"slices"
	"sort"
	"strings"
	"testing"

	"phaeton/api"
)

const (
	topShort = 1<<11 - 1
	topLong  = 1<<29 - 1
)

// row returns the bits that a text of digits and spaces has.
func row(text string) []int {
	l := []int{}
	for _, c := range strings.ReplaceAll(text, " ", "") {
		l = append(l, int(c-'0'))
	}
	return l
}

// text is row's inverse.
func text(l []int) string {
	var b strings.Builder
	for _, bit := range l {
		b.WriteByte('0' + byte(bit))
	}
	return b.String()
}

// frameOf returns a frame with data bytes that tell places and directions apart, or none if it is remote.
func frameOf(ext bool, id int, remote bool, many int) api.Frame {
	f := api.Frame{Ext: ext, ID: id, Remote: remote, Len: many}
	if !remote {
		for i := range many {
			f.Data = append(f.Data, byte(0x1D*(i+1)+id))
		}
	}
	return f
}

// shortIDs and longIDs hold the edges, each single bit, and mixed values.
func shortIDs() []int {
	l := []int{0, topShort, 0x555, 0x2AA, 0x123}
	for by := range 11 {
		l = append(l, 1<<by)
	}
	return l
}

func longIDs() []int {
	l := []int{0, topLong, 1<<18 - 1, topShort << 18, 0x0AAAAAAA, 0x15555555, 0x12345678}
	for by := range 29 {
		l = append(l, 1<<by)
	}
	return l
}

// everyFrame calls check with frames of both kinds, each length, remote and not.
func everyFrame(check func(f api.Frame)) {
	for _, remote := range []bool{false, true} {
		for many := range 9 {
			for _, id := range shortIDs() {
				check(frameOf(false, id, remote, many))
			}
			for _, id := range longIDs() {
				check(frameOf(true, id, remote, many))
			}
		}
	}
}

func randomFrame(r *rand.Rand) api.Frame {
	f := api.Frame{Ext: r.Intn(2) == 1, ID: r.Intn(topShort + 1), Remote: r.Intn(2) == 1, Len: r.Intn(9)}
	if f.Ext {
		f.ID = r.Intn(topLong + 1)
	}
	if !f.Remote {
		f.Data = make([]byte, f.Len)
		r.Read(f.Data)
	}
	return f
}

// The chapter's tables and D3, written out as a text of places and a walk along it, without the package's own steps.

// Each place of a header ahead of the data: a fixed 0 or 1, or the letter of what stands there.
const (
	shortPlaces = "0IIIIIIIIIIIR00LLLL"
	longPlaces  = "0IIIIIIIIIII11IIIIIIIIIIIIIIIIIIR00LLLL"
)

func places(ext bool) string {
	if ext {
		return longPlaces
	}
	return shortPlaces
}

func plainHead(f api.Frame) []int {
	places := places(f.Ext)
	idLeft, lenLeft := strings.Count(places, "I"), strings.Count(places, "L")
	var l []int
	for _, place := range places {
		switch place {
		case 'I':
			idLeft--
			l = append(l, f.ID>>idLeft&1)
		case 'L':
			lenLeft--
			l = append(l, f.Len>>lenLeft&1)
		case 'R':
			remote := 0
			if f.Remote {
				remote = 1
			}
			l = append(l, remote)
		default:
			l = append(l, int(place-'0'))
		}
	}
	for _, b := range f.Data {
		for by := 7; by >= 0; by-- {
			l = append(l, int(b)>>by&1)
		}
	}
	return l
}

// plainRead walks along the places; a missing bit and a wrong one are told where they are met.
func plainRead(l []int) (api.Frame, int, api.Errno) {
	f := api.Frame{Ext: len(l) > 13 && l[13] == 1}
	for at, place := range places(f.Ext) {
		if at >= len(l) {
			return api.Frame{}, 0, api.ErrShort
		}
		fixed := place == '0' || place == '1'
		// The bit at 12 is judged at 13 only, where there is one.
		if at == 13 && f.Ext && l[12] != 1 || at != 12 && fixed && l[at] != int(place-'0') {
			return api.Frame{}, 0, api.ErrForm
		}
		switch place {
		case 'I':
			f.ID = 2*f.ID + l[at]
		case 'L':
			f.Len = 2*f.Len + l[at]
		case 'R':
			f.Remote = l[at] == 1
		}
	}
	if f.Len > 8 {
		return api.Frame{}, 0, api.ErrLen
	}
	at := len(places(f.Ext))
	if f.Remote {
		return f, at, api.OK
	}
	if len(l) < at+8*f.Len {
		return api.Frame{}, 0, api.ErrShort
	}
	for range f.Len {
		b := 0
		for range 8 {
			b = 2*b + l[at]
			at++
		}
		f.Data = append(f.Data, byte(b))
	}
	return f, at, api.OK
}

// checkRead compares Read with the walk, and looks at what must stand beside an error.
func checkRead(t *testing.T, l []int) {
	t.Helper()
	f, many, err := Read(l)
	wantFrame, wantMany, wantErr := plainRead(l)
	if !Same(f, wantFrame) || many != wantMany || err != wantErr {
		t.Fatalf("Read(%s) = %v, %d, %d; want %v, %d, %d", text(l), f, many, err, wantFrame, wantMany, wantErr)
	}
	if err != api.OK && (f.Ext || f.ID != 0 || f.Remote || f.Len != 0 || f.Data != nil || many != 0) {
		t.Fatalf("Read(%s) = %v, %d beside error %d", text(l), f, many, err)
	}
}

func TestRight(t *testing.T) { // P4.1, D1
	eight, nine := make([]byte, 8), make([]byte, 9)
	tests := []struct {
		f    api.Frame
		want bool
	}{
		{api.Frame{}, true},
		{api.Frame{Data: []byte{}}, true},
		{api.Frame{ID: topShort}, true},
		{api.Frame{ID: topShort + 1}, false},
		{api.Frame{ID: topLong}, false},
		{api.Frame{ID: -1}, false},
		{api.Frame{ID: math.MaxInt}, false},
		{api.Frame{ID: math.MinInt}, false},
		{api.Frame{Ext: true}, true},
		{api.Frame{Ext: true, ID: topShort + 1}, true},
		{api.Frame{Ext: true, ID: topLong}, true},
		{api.Frame{Ext: true, ID: topLong + 1}, false},
		{api.Frame{Ext: true, ID: -1}, false},
		{api.Frame{Ext: true, ID: math.MaxInt}, false},
		{api.Frame{Len: 8, Data: eight}, true},
		{api.Frame{Len: 9, Data: nine}, false},
		{api.Frame{Len: 8, Data: nine}, false},
		{api.Frame{Len: 9, Data: eight}, false},
		{api.Frame{Len: 1}, false},
		{api.Frame{Len: 0, Data: []byte{1}}, false},
		{api.Frame{Len: -1}, false},
		{api.Frame{Len: math.MinInt}, false},
		{api.Frame{Len: math.MaxInt}, false},
		{api.Frame{Remote: true}, true},
		{api.Frame{Remote: true, Len: 8}, true},
		{api.Frame{Remote: true, Len: 9}, false},
		{api.Frame{Remote: true, Len: -1}, false},
		{api.Frame{Remote: true, Len: 1, Data: []byte{1}}, false},
		{api.Frame{Remote: true, Len: 8, Data: eight}, false},
		{api.Frame{Remote: true, Data: []byte{1}}, false},
		{api.Frame{Remote: true, ID: topShort + 1}, false},
		{api.Frame{Ext: true, Remote: true, ID: topLong, Len: 8}, true},
	}
	for _, test := range tests {
		if got := Right(test.f); got != test.want {
			t.Errorf("Right(%v) = %v", test.f, got)
		}
	}
	everyFrame(func(f api.Frame) {
		if !Right(f) {
			t.Errorf("Right(%v) = false", f)
		}
	})
}

func TestSame(t *testing.T) { // P4.1, D1
	all := []api.Frame{
		{},
		{Ext: true},
		{ID: 1},
		{ID: -1},
		{ID: math.MaxInt},
		{Remote: true},
		{Len: 1},
		{Len: 2},
		{Len: -7},
		{Data: []byte{0}},
		{Data: []byte{0, 0}},
		{Len: 2, Data: []byte{1, 2}},
		{Len: 2, Data: []byte{2, 1}},
		{Len: 2, Data: []byte{1, 3}},
		{Ext: true, ID: 5, Remote: true, Len: 20, Data: make([]byte, 30)},
	}
	for i, a := range all {
		for k, b := range all {
			b.Data = bytes.Clone(b.Data)
			if got := Same(a, b); got != (i == k) {
				t.Errorf("Same(%v, %v) = %v", a, b, got)
			}
		}
	}
	if !Same(api.Frame{}, api.Frame{Data: []byte{}}) {
		t.Error("no data and empty data are not the same")
	}
}

func TestHeadAndRankExamples(t *testing.T) { // P4.1, D2
	tests := []struct {
		f          api.Frame
		head, rank string
	}{
		{api.Frame{}, "0 00000000000 0 0 0 0000", "00000000000 0 0"},
		{api.Frame{ID: 1, Len: 1, Data: []byte{128}}, "0 00000000001 0 0 0 0001 10000000", "00000000001 0 0"},
		{api.Frame{ID: 1 << 10, Remote: true, Len: 8}, "0 10000000000 1 0 0 1000", "10000000000 1 0"},
		{api.Frame{ID: topShort, Len: 2, Data: []byte{1, 255}}, "0 11111111111 0 0 0 0010 00000001 11111111", "11111111111 0 0"},
		{api.Frame{Ext: true}, "0 00000000000 1 1 000000000000000000 0 0 0 0000", "00000000000 1 1 000000000000000000 0"},
		{api.Frame{Ext: true, ID: 1 << 18, Remote: true, Len: 3}, "0 00000000001 1 1 000000000000000000 1 0 0 0011", "00000000001 1 1 000000000000000000 1"},
		{api.Frame{Ext: true, ID: 1<<17 | 1, Len: 1, Data: []byte{3}}, "0 00000000000 1 1 100000000000000001 0 0 0 0001 00000011", "00000000000 1 1 100000000000000001 0"},
		{api.Frame{Ext: true, ID: topLong}, "0 11111111111 1 1 111111111111111111 0 0 0 0000", "11111111111 1 1 111111111111111111 0"},
	}
	for _, test := range tests {
		if got := Head(test.f); !slices.Equal(got, row(test.head)) {
			t.Errorf("Head(%v) = %s, want %s", test.f, text(got), test.head)
		}
		if got := Rank(test.f); !slices.Equal(got, row(test.rank)) {
			t.Errorf("Rank(%v) = %s, want %s", test.f, text(got), test.rank)
		}
	}
	// The chapter's example.
	if got := len(Head(api.Frame{ID: 1, Len: 1, Data: []byte{128}})); got != 19+8 {
		t.Errorf("the example's header has %d bits", got)
	}
}

func TestHeadAndRankOfEveryKind(t *testing.T) { // P4.1, D2
	check := func(f api.Frame) {
		want := plainHead(f)
		if got := Head(f); !slices.Equal(got, want) {
			t.Fatalf("Head(%v) = %s, want %s", f, text(got), text(want))
		}
		end := 1 + 13
		if f.Ext {
			end = 1 + 32
		}
		if got := Rank(f); !slices.Equal(got, want[1:end]) {
			t.Fatalf("Rank(%v) = %s, want %s", f, text(got), text(want[1:end]))
		}
	}
	everyFrame(check)
	r := rand.New(rand.NewSource(1))
	for range 3000 {
		check(randomFrame(r))
	}
}

func TestReadErrors(t *testing.T) { // P4.1, D3
	tests := []struct {
		name string
		l    string
		want api.Errno
	}{
		{"nothing", "", api.ErrShort},
		{"first bit 1", "1", api.ErrForm},
		{"identifier ends", "0 1111111111", api.ErrShort},
		{"ends ahead of the kind", "0 00000000000 0", api.ErrShort},
		{"ends behind the kind", "0 00000000000 0 0", api.ErrShort},
		{"bit ahead of the kind is 0, and nothing follows", "0 00000000000 0 1", api.ErrForm},
		{"extended ends behind the kind", "0 00000000000 1 1", api.ErrShort},
		{"bit ahead of Len, and nothing follows", "0 00000000000 0 0 1", api.ErrForm},
		{"bit ahead of Len, and Len too great", "0 00000000000 0 0 1 1111", api.ErrForm},
		{"Len's last bit missing", "0 00000000000 0 0 0 111", api.ErrShort},
		{"Len 9 ahead of missing data", "0 00000000000 0 0 0 1001", api.ErrLen},
		{"Len 15", "0 00000000000 0 0 0 1111", api.ErrLen},
		{"remote with Len 9", "0 00000000000 1 0 0 1001", api.ErrLen},
		{"Len 8 and no data", "0 00000000000 0 0 0 1000", api.ErrShort},
		{"last data bit missing", "0 00000000000 0 0 0 0001 0000000", api.ErrShort},
		{"Len 0", "0 00000000000 0 0 0 0000", api.OK},
		{"remote with Len 8 and no data", "0 00000000000 1 0 0 1000", api.OK},
		{"extended, first bit ahead of Len", "0 00000000000 1 1 000000000000000000 0 1", api.ErrForm},
		{"extended, second bit ahead of Len", "0 00000000000 1 1 000000000000000000 0 0 1", api.ErrForm},
		{"extended, second bit missing", "0 00000000000 1 1 000000000000000000 0 0", api.ErrShort},
		{"extended, Len 9", "0 00000000000 1 1 000000000000000000 0 0 0 1001", api.ErrLen},
		{"extended, Len 1 and no data", "0 00000000000 1 1 000000000000000000 0 0 0 0001", api.ErrShort},
		{"extended, Len 0", "0 00000000000 1 1 000000000000000000 1 0 0 0000", api.OK},
	}
	for _, test := range tests {
		f, many, err := Read(row(test.l))
		if err != test.want {
			t.Errorf("%s: error %d, want %d", test.name, err, test.want)
		}
		if err != api.OK && (!Same(f, api.Frame{}) || many != 0) {
			t.Errorf("%s: %v, %d beside the error", test.name, f, many)
		}
	}
	if _, _, err := Read(nil); err != api.ErrShort {
		t.Errorf("Read(nil): error %d", err)
	}
}

func TestReadCutAndFlipped(t *testing.T) { // P4.1, D3
	everyFrame(func(f api.Frame) {
		head := plainHead(f)
		for end := range len(head) {
			if _, _, err := Read(head[:end]); err != api.ErrShort {
				t.Fatalf("Read(%s): error %d, want ErrShort", text(head[:end]), err)
			}
		}
		for at := range head {
			l := slices.Clone(head)
			l[at] ^= 1
			checkRead(t, l)
			checkRead(t, l[:at+1])
			checkRead(t, append(l, 1, 0, 1, 1, 0, 0, 0, 1, 1, 1, 0, 1, 0, 0, 1, 0, 1, 1, 1, 0, 0, 1, 0, 1))
		}
	})
}

func TestReadOfAnyBits(t *testing.T) { // P4.1, D3
	for many := range 21 {
		for n := range 1 << min(many, 10) {
			// The first bits of the header's start are kept 0: the bits behind the identifier are varied.
			l := make([]int, many)
			for i := range min(many, 10) {
				l[many-1-i] = n >> i & 1
			}
			checkRead(t, l)
		}
	}
	r := rand.New(rand.NewSource(2))
	for range 30000 {
		l := make([]int, r.Intn(120))
		for i := range l {
			l[i] = r.Intn(2)
		}
		// Bits that are fixed seldom stand right by chance.
		for i, place := range places(len(l) > 13 && l[13] == 1) {
			if i < len(l) && i != 13 && (place == '0' || place == '1') && r.Intn(8) > 0 {
				l[i] = int(place - '0')
			}
		}
		checkRead(t, l)
	}
}

func TestThereAndBack(t *testing.T) { // P4.2
	check := func(f api.Frame, tail []int) {
		head := Head(f)
		got, many, err := Read(slices.Concat(head, tail))
		if !Same(got, f) || many != len(head) || err != api.OK {
			t.Fatalf("Read of the header of %v, then %s: %v, %d, %d", f, text(tail), got, many, err)
		}
	}
	r := rand.New(rand.NewSource(3))
	any := func() []int {
		l := make([]int, r.Intn(90))
		for i := range l {
			l[i] = r.Intn(2)
		}
		return l
	}
	everyFrame(func(f api.Frame) {
		check(f, nil)
		check(f, []int{0})
		check(f, []int{1})
		check(f, slices.Repeat([]int{1}, 64))
		check(f, Head(f))
		check(f, any())
	})
	for range 5000 {
		check(randomFrame(r), any())
	}
	check(frameOf(true, topLong, false, 8), slices.Repeat([]int{0, 1}, 1900))
}

// rankedFrames holds every short identifier, and long ones whose parts are edges, both remote and not.
func rankedFrames() []api.Frame {
	var all []api.Frame
	for _, remote := range []bool{false, true} {
		for id := range topShort + 1 {
			all = append(all, api.Frame{ID: id, Remote: remote})
		}
		for upper := range topShort + 1 {
			for _, lower := range []int{0, 1, 2, 1 << 17, 1<<17 + 1, 1<<18 - 2, 1<<18 - 1} {
				all = append(all, api.Frame{Ext: true, ID: upper<<18 | lower, Remote: remote})
			}
		}
	}
	return all
}

func TestRanksDiffer(t *testing.T) { // P4.3
	var all []string
	of := map[string]api.Frame{}
	for _, f := range rankedFrames() {
		rank := text(Rank(f))
		if other, there := of[rank]; there {
			t.Fatalf("%v and %v have the rank %s", f, other, rank)
		}
		of[rank] = f
		all = append(all, rank)
	}
	// In order, a prefix stands directly ahead of one of those that begin with it.
	sort.Strings(all)
	for i := range len(all) - 1 {
		if strings.HasPrefix(all[i+1], all[i]) {
			t.Fatalf("the rank %s is a prefix of %s", all[i], all[i+1])
		}
	}
}

func TestRanksAlike(t *testing.T) { // P4.3
	r := rand.New(rand.NewSource(4))
	for range 3000 {
		a, b := randomFrame(r), randomFrame(r)
		b.Ext, b.ID, b.Remote = a.Ext, a.ID, a.Remote
		if b.Remote {
			b.Data = nil
		} else {
			b.Data = make([]byte, b.Len)
		}
		if !slices.Equal(Rank(a), Rank(b)) {
			t.Fatalf("the ranks of %v and %v differ", a, b)
		}
	}
}

func TestWrongArgumentsDoNotPanic(t *testing.T) { // P1
	for _, id := range []int{-1, math.MinInt, math.MaxInt, topShort + 1, topLong + 1} {
		for _, many := range []int{-1, 9, 16, math.MinInt, math.MaxInt} {
			for _, f := range []api.Frame{{ID: id, Len: many}, {Ext: true, ID: id, Len: many, Data: make([]byte, 40)}} {
				Right(f)
				Same(f, f)
				Head(f)
				Rank(f)
			}
		}
	}
	head := Head(frameOf(true, topLong, false, 8))
	for at := range head {
		for _, wrong := range []int{2, -1, math.MaxInt, math.MinInt} {
			l := slices.Clone(head)
			l[at] = wrong
			if f, many, err := Read(l); err == api.OK || !Same(f, api.Frame{}) || many != 0 {
				t.Errorf("an element %d at %d: %v, %d, %d", wrong, at, f, many, err)
			}
		}
	}
}

func TestArgumentsStayAndAnswersAreNew(t *testing.T) { // P3
	everyFrame(func(f api.Frame) {
		was := bytes.Clone(f.Data)
		head, rank := Head(f), Rank(f)
		kept := slices.Clone(head)
		clear(rank)
		got, _, _ := Read(head)
		if !slices.Equal(head, kept) || !bytes.Equal(f.Data, was) {
			t.Fatalf("%v: an argument was changed", f)
		}
		clear(head)
		if !Same(got, f) {
			t.Fatalf("%v: the frame that was read changed with its bits", f)
		}
		if !slices.Equal(Head(f), kept) {
			t.Fatalf("%v: a second call answers otherwise", f)
		}
	})
}
