package filter

import (
	"fmt"
	"math"
	"math/rand"
	"slices"
	"strings"
	"testing"

	"phaeton/api"
)

// The chapter, written out on texts: a filter is a pattern of the digits that it asks for, with a dash where it asks for none.

func width(ext bool) int {
	if ext {
		return 29
	}
	return 11
}

func pattern(f api.Filter) string {
	digits := []byte(fmt.Sprintf("%0*b", width(f.Ext), f.Match))
	for i, asked := range fmt.Sprintf("%0*b", width(f.Ext), f.Mask) {
		if asked == '0' {
			digits[i] = '-'
		}
	}
	return string(digits)
}

// parse is pattern's inverse: texts of 11 and of 29 signs are filters of either kind.
func parse(text string) api.Filter {
	text = strings.ReplaceAll(text, " ", "")
	f := api.Filter{Ext: len(text) == 29}
	for _, c := range text {
		f.Mask, f.Match = f.Mask<<1, f.Match<<1
		if c != '-' {
			f.Mask++
			f.Match += int(c - '0')
		}
	}
	return f
}

// eachSign reports whether two texts are of one length and all pairs of their signs pass.
func eachSign(a, b string, pass func(p, q byte) bool) bool {
	if len(a) != len(b) {
		return false
	}
	for i := range len(a) {
		if !pass(a[i], b[i]) {
			return false
		}
	}
	return true
}

func plainCovers(a, b string) bool {
	return eachSign(a, b, func(p, q byte) bool { return p == '-' || p == q })
}

func plainMeets(a, b string) bool {
	return eachSign(a, b, func(p, q byte) bool { return p == '-' || q == '-' || p == q })
}

func plainTakes(f api.Filter, x api.Frame) bool {
	return plainCovers(pattern(f), fmt.Sprintf("%0*b", width(x.Ext), x.ID))
}

// randomFilters returns valid filters of both kinds, which have few bits to differ in, so that many of them cover or meet each other.
func randomFilters(r *rand.Rand, many int) []api.Filter {
	share, same := r.Intn(1<<29), r.Intn(1<<29)
	var all []api.Filter
	for range many {
		f := api.Filter{Ext: r.Intn(2) == 1}
		f.Mask = (r.Intn(1<<29) | share&r.Intn(1<<29)) & (1<<width(f.Ext) - 1)
		f.Match = (same ^ r.Intn(1<<29)&r.Intn(1<<29)&r.Intn(1<<29)&r.Intn(1<<29)) & f.Mask
		if r.Intn(4) == 0 { // few bits asked for, or none
			f.Mask &= 1 << r.Intn(29)
			f.Match &= f.Mask
		}
		all = append(all, f)
	}
	return all
}

// randomFrame returns a valid frame that f accepts, but for some bits changed now and then.
func randomFrame(r *rand.Rand, f api.Filter) api.Frame {
	x := api.Frame{Ext: f.Ext, Remote: r.Intn(2) == 1, Len: r.Intn(9)}
	if r.Intn(8) == 0 {
		x.Ext = !x.Ext
	}
	x.ID = f.Match | r.Intn(1<<29)&^f.Mask
	if r.Intn(2) == 0 {
		x.ID ^= 1 << r.Intn(width(f.Ext))
	}
	x.ID &= 1<<width(x.Ext) - 1
	if !x.Remote {
		x.Data = make([]byte, x.Len)
		r.Read(x.Data)
	}
	return x
}

// fewBits returns all filters of a kind that ask for some of the three given bits alone.
func fewBits(ext bool, places [3]int) []api.Filter {
	var all []api.Filter
	for mask := range 8 {
		for match := range 8 {
			if match&^mask == 0 {
				all = append(all, api.Filter{Ext: ext, Mask: spread(mask, places), Match: spread(match, places)})
			}
		}
	}
	return all
}

// spread puts the three bits of n to their places.
func spread(n int, places [3]int) int {
	out := 0
	for i, place := range places {
		out |= (n >> i & 1) << place
	}
	return out
}

func TestRight(t *testing.T) { // P7.1, G1
	tests := []struct {
		f    api.Filter
		want bool
	}{
		{api.Filter{}, true},
		{api.Filter{Ext: true}, true},
		{api.Filter{Mask: 0x7F0, Match: 0x120}, true},
		{api.Filter{Mask: 1<<11 - 1}, true},
		{api.Filter{Mask: 1<<11 - 1, Match: 1<<11 - 1}, true},
		{api.Filter{Ext: true, Mask: 1<<29 - 1, Match: 1<<29 - 1}, true},
		{api.Filter{Ext: true, Mask: 1 << 11, Match: 1 << 11}, true},
		{api.Filter{Ext: true, Mask: 1 << 28, Match: 1 << 28}, true},
		{api.Filter{Mask: 1 << 11}, false},
		{api.Filter{Mask: 1 << 11, Match: 1 << 11}, false},
		{api.Filter{Mask: 1<<29 - 1}, false},
		{api.Filter{Ext: true, Mask: 1 << 29}, false},
		{api.Filter{Ext: true, Mask: 1 << 29, Match: 1 << 29}, false},
		{api.Filter{Ext: true, Mask: 1<<29 - 1, Match: 1 << 29}, false},
		{api.Filter{Mask: 1<<11 - 1, Match: 1 << 11}, false},
		{api.Filter{Match: 1}, false},
		{api.Filter{Ext: true, Match: 1}, false},
		{api.Filter{Mask: 2, Match: 3}, false},
		{api.Filter{Mask: 0x7F0, Match: 0x121}, false},
		{api.Filter{Mask: -1}, false},
		{api.Filter{Mask: -1, Match: -1}, false},
		{api.Filter{Mask: -1, Match: 5}, false},
		{api.Filter{Ext: true, Mask: -1}, false},
		{api.Filter{Mask: 1<<11 - 1, Match: -1}, false},
		{api.Filter{Ext: true, Mask: 1<<29 - 1, Match: -1}, false},
		{api.Filter{Match: -1}, false},
		{api.Filter{Mask: math.MaxInt, Match: math.MaxInt}, false},
		{api.Filter{Ext: true, Mask: math.MaxInt}, false},
		{api.Filter{Ext: true, Mask: math.MinInt, Match: math.MinInt}, false},
		{api.Filter{Mask: math.MinInt}, false},
		{api.Filter{Match: math.MinInt}, false},
		{api.Filter{Mask: 1<<11 - 1, Match: math.MinInt + 1}, false},
		{api.Filter{Mask: 1 << 32}, false},
		{api.Filter{Ext: true, Mask: 1 << 32, Match: 1 << 32}, false},
	}
	for _, test := range tests {
		if got := Right(test.f); got != test.want {
			t.Errorf("Right(%+v) = %t", test.f, got)
		}
	}
}

func TestRightEach(t *testing.T) { // P7.1, G1
	// The words of the chapter, for every pair of small numbers, and for numbers around the edges.
	plain := func(f api.Filter) bool {
		end := 1 << width(f.Ext)
		if f.Mask < 0 || f.Mask >= end || f.Match < 0 || f.Match >= end {
			return false
		}
		return f.Mask|f.Match == f.Mask
	}
	var edges []int
	for by := range 63 {
		edges = append(edges, 1<<by-1, 1<<by, 1<<by+1, -1<<by, -1<<by-1)
	}
	for n := range 70 {
		edges = append(edges, n)
	}
	for _, ext := range []bool{false, true} {
		for _, mask := range edges {
			for _, match := range edges {
				f := api.Filter{Ext: ext, Mask: mask, Match: match}
				if got := Right(f); got != plain(f) {
					t.Fatalf("Right(%+v) = %t", f, got)
				}
			}
		}
	}
}

func TestTakes(t *testing.T) { // P7.1, G1
	tests := []struct {
		f    api.Filter
		x    api.Frame
		want bool
	}{
		{api.Filter{Mask: 0x7F0, Match: 0x120}, api.Frame{ID: 0x12F}, true}, // the chapter's example
		{api.Filter{Mask: 0x7F0, Match: 0x120}, api.Frame{ID: 0x120}, true},
		{api.Filter{Mask: 0x7F0, Match: 0x120}, api.Frame{ID: 0x130}, false},
		{api.Filter{Mask: 0x7F0, Match: 0x120}, api.Frame{ID: 0x020}, false},
		{api.Filter{Mask: 0x7F0, Match: 0x120}, api.Frame{ID: 0x7FF}, false},
		{api.Filter{Mask: 0x7F0, Match: 0x120}, api.Frame{Ext: true, ID: 0x12F}, false},
		{api.Filter{Ext: true, Mask: 0x7F0, Match: 0x120}, api.Frame{ID: 0x12F}, false},
		{api.Filter{Ext: true, Mask: 0x7F0, Match: 0x120}, api.Frame{Ext: true, ID: 0x12F}, true},
		{api.Filter{Ext: true, Mask: 0x7F0, Match: 0x120}, api.Frame{Ext: true, ID: 0x1FFFF92F}, true},
		{api.Filter{}, api.Frame{ID: 0}, true},
		{api.Filter{}, api.Frame{ID: 1<<11 - 1}, true},
		{api.Filter{}, api.Frame{Ext: true}, false},
		{api.Filter{Ext: true}, api.Frame{Ext: true, ID: 1<<29 - 1}, true},
		{api.Filter{Ext: true}, api.Frame{}, false},
		{api.Filter{Mask: 1<<11 - 1}, api.Frame{ID: 0}, true},
		{api.Filter{Mask: 1<<11 - 1}, api.Frame{ID: 1}, false},
		{api.Filter{Mask: 1<<11 - 1, Match: 1<<11 - 1}, api.Frame{ID: 1<<11 - 1}, true},
		{api.Filter{Mask: 1<<11 - 1, Match: 1<<11 - 1}, api.Frame{ID: 1<<10 - 1}, false},
		{api.Filter{Ext: true, Mask: 1 << 28, Match: 1 << 28}, api.Frame{Ext: true, ID: 1 << 28}, true},
		{api.Filter{Ext: true, Mask: 1 << 28, Match: 1 << 28}, api.Frame{Ext: true, ID: 1<<28 - 1}, false},
		{api.Filter{Ext: true, Mask: 1 << 28}, api.Frame{Ext: true, ID: 1 << 28}, false},
	}
	for _, test := range tests {
		if got := Takes(test.f, test.x); got != test.want {
			t.Errorf("Takes(%+v, %+v) = %t", test.f, test.x, got)
		}
	}
}

func TestTakesRandom(t *testing.T) { // P7.1, G1
	r := rand.New(rand.NewSource(7))
	taken := 0
	for range 4000 {
		for _, f := range randomFilters(r, 5) {
			x := randomFrame(r, f)
			got := Takes(f, x)
			if got != plainTakes(f, x) {
				t.Fatalf("Takes(%+v, %+v) = %t", f, x, got)
			}
			if got {
				taken++
			}
		}
	}
	if taken < 4000 || taken > 16000 {
		t.Errorf("%d of 20000 random frames are accepted: the test tells little", taken)
	}
}

func TestTakesOnlyTheIdentifier(t *testing.T) { // P7.1, G1
	r := rand.New(rand.NewSource(71))
	for range 1000 {
		f := randomFilters(r, 1)[0]
		x := randomFrame(r, f)
		want := Takes(f, api.Frame{Ext: x.Ext, ID: x.ID})
		for many := range 9 {
			others := []api.Frame{
				{Ext: x.Ext, ID: x.ID, Remote: true, Len: many},
				{Ext: x.Ext, ID: x.ID, Len: many, Data: slices.Repeat([]byte{0xA5}, many)},
			}
			for _, other := range others {
				if got := Takes(f, other); got != want {
					t.Fatalf("Takes(%+v, %+v) = %t; with no data it is %t", f, other, got, want)
				}
			}
		}
	}
}

func TestAny(t *testing.T) { // P7.1, G2
	one := api.Filter{Mask: 0x7FF, Match: 0x125}
	other := api.Filter{Mask: 0x7FF, Match: 0x126}
	odd := api.Filter{Mask: 1, Match: 1}
	even := api.Filter{Mask: 1}
	all := api.Filter{}
	long := api.Filter{Ext: true}
	x := api.Frame{ID: 0x125}
	tests := []struct {
		l    []api.Filter
		x    api.Frame
		want bool
	}{
		{nil, x, true},
		{[]api.Filter{}, x, true},
		{nil, api.Frame{Ext: true, ID: 1<<29 - 1, Remote: true}, true},
		{[]api.Filter{one}, x, true},
		{[]api.Filter{other}, x, false},
		{[]api.Filter{all}, x, true},
		{[]api.Filter{long}, x, false},
		{[]api.Filter{long, all}, api.Frame{Ext: true, ID: 9}, true},
		{[]api.Filter{all, one}, api.Frame{Ext: true, ID: 0x125}, false},
		{[]api.Filter{one, other, even}, x, true},
		{[]api.Filter{other, one, even}, x, true},
		{[]api.Filter{other, even, one}, x, true},
		{[]api.Filter{other, even, long}, x, false},
		{[]api.Filter{other, other, other}, x, false},
		{[]api.Filter{odd, odd}, x, true},
		// Several do not make up for one: each of these leaves out a bit of the frame.
		{[]api.Filter{{Mask: 3, Match: 2}, {Mask: 6, Match: 6}}, api.Frame{ID: 5}, false},
	}
	for _, test := range tests {
		if got := Any(test.l, test.x); got != test.want {
			t.Errorf("Any(%+v, %+v) = %t", test.l, test.x, got)
		}
	}
}

func TestAnyRandom(t *testing.T) { // P7.1, G2
	r := rand.New(rand.NewSource(72))
	for range 4000 {
		l := randomFilters(r, r.Intn(9))
		x := randomFrame(r, randomFilters(r, 1)[0])
		if len(l) > 0 {
			x = randomFrame(r, l[r.Intn(len(l))])
		}
		want := len(l) == 0
		for _, f := range l {
			want = want || plainTakes(f, x)
		}
		if got := Any(l, x); got != want {
			t.Fatalf("Any(%+v, %+v) = %t", l, x, got)
		}
	}
}

func TestCoversAndMeets(t *testing.T) { // P7.1, G3
	tests := []struct {
		a, b    string
		covers  bool // a covers b
		meets   bool
		covered bool // b covers a
	}{
		{"-----------", "00100100101", true, true, false},
		{"0010010----", "00100100101", true, true, false},
		{"0010010----", "0010010----", true, true, true},
		{"0010010----", "-------0101", false, true, false},
		{"0010010----", "010--------", false, false, false},
		{"00000000000", "00000000001", false, false, false},
		{"0----------", "1----------", false, false, false},
		{"0----------", "-----------", false, true, true},
		{"0---------1", "0---------1", true, true, true},
		{"0---------1", "0---------0", false, false, false},
		{"0---------1", "00--------1", true, true, false},
		{"0---------1", "10--------1", false, false, false},
		// Bits that only one of them asks for.
		{"1----------", "----------1", false, true, false},
		{"11111------", "-----000000", false, true, false},
		{"11111------", "----0000000", false, false, false},
		// No filter of one kind covers or meets one of the other, whatever it asks for.
		{"-----------", "------------------ -----------", false, false, false},
		{"-----------", "------------------ 00100100101", false, false, false},
		{"00100100101", "000000000000000000 00100100101", false, false, false},
		{"------------------ -----------", "00000000000000000000000000001", true, true, false},
		{"1----------------------------", "----------------------------1", false, true, false},
		{"1----------------------------", "0----------------------------", false, false, false},
	}
	for _, test := range tests {
		a, b := parse(test.a), parse(test.b)
		if got := Covers(a, b); got != test.covers {
			t.Errorf("Covers(%s, %s) = %t", test.a, test.b, got)
		}
		if got := Covers(b, a); got != test.covered {
			t.Errorf("Covers(%s, %s) = %t", test.b, test.a, got)
		}
		if Meets(a, b) != test.meets || Meets(b, a) != test.meets {
			t.Errorf("Meets of %s and %s is not %t, in either order", test.a, test.b, test.meets)
		}
	}
}

func TestCoversAndMeetsRandom(t *testing.T) { // P7.1, G3
	r := rand.New(rand.NewSource(73))
	covered, met, pairs := 0, 0, 0
	for range 2000 {
		l := randomFilters(r, 5)
		// One that asks for less than the first.
		less := l[0]
		less.Mask &= r.Intn(1 << 29)
		less.Match &= less.Mask
		l = append(l, less)
		for _, a := range l {
			for _, b := range l {
				pairs++
				covers, meets := Covers(a, b), Meets(a, b)
				if covers != plainCovers(pattern(a), pattern(b)) {
					t.Fatalf("Covers(%s, %s) = %t", pattern(a), pattern(b), covers)
				}
				if meets != plainMeets(pattern(a), pattern(b)) {
					t.Fatalf("Meets(%s, %s) = %t", pattern(a), pattern(b), meets)
				}
				if covers {
					covered++
				}
				if meets {
					met++
				}
			}
		}
	}
	if covered < pairs/10 || met < pairs/5 || met > pairs*9/10 {
		t.Errorf("of %d random pairs %d cover and %d meet: the test tells little", pairs, covered, met)
	}
}

// accepted tells for each frame of all whether f accepts it.
func accepted(f api.Filter, all []api.Frame) []bool {
	var out []bool
	for _, x := range all {
		out = append(out, Takes(f, x))
	}
	return out
}

// checkSets checks Covers and Meets of all pairs of filters on what the filters accept of frames that are enough to tell them apart.
func checkSets(t *testing.T, filters []api.Filter, frames []api.Frame) {
	t.Helper()
	var sets [][]bool
	for _, f := range filters {
		sets = append(sets, accepted(f, frames))
	}
	for i, a := range filters {
		for j, b := range filters {
			covers, meets := true, false
			for k := range frames {
				covers = covers && (sets[i][k] || !sets[j][k])
				meets = meets || sets[i][k] && sets[j][k]
			}
			if got := Covers(a, b); got != covers {
				t.Fatalf("Covers(%s, %s) = %t", pattern(a), pattern(b), got)
			}
			if got := Meets(a, b); got != meets {
				t.Fatalf("Meets(%s, %s) = %t", pattern(a), pattern(b), got)
			}
		}
	}
}

func TestFewBitsSets(t *testing.T) { // P7.2
	for _, places := range [][3]int{{0, 1, 2}, {8, 9, 10}, {0, 5, 10}} {
		filters := slices.Concat(fewBits(false, places), fewBits(true, places))
		var frames []api.Frame
		for id := range 8 {
			frames = append(frames, api.Frame{ID: spread(id, places)}, api.Frame{Ext: true, ID: spread(id, places)})
		}
		checkSets(t, filters, frames)
	}
	for _, places := range [][3]int{{26, 27, 28}, {0, 11, 28}} {
		var frames []api.Frame
		for id := range 8 {
			frames = append(frames, api.Frame{Ext: true, ID: spread(id, places)})
		}
		checkSets(t, fewBits(true, places), frames)
	}
}

func TestAllShortFrames(t *testing.T) { // P7.2
	r := rand.New(rand.NewSource(74))
	var frames []api.Frame
	for id := range 1 << 11 {
		frames = append(frames, api.Frame{ID: id})
	}
	for range 20 {
		l := randomFilters(r, 20)
		l = slices.DeleteFunc(l, func(f api.Filter) bool { return f.Ext })
		checkSets(t, l, frames)
	}
}

// between returns a frame that b accepts and a does not, and whether there is one.
func between(a, b api.Filter) (api.Frame, bool) {
	ids := []int{b.Match}
	for by := range width(b.Ext) {
		if b.Mask>>by&1 == 0 {
			ids = append(ids, b.Match|1<<by)
		}
	}
	for _, id := range ids {
		if x := (api.Frame{Ext: b.Ext, ID: id}); plainTakes(b, x) && !plainTakes(a, x) {
			return x, true
		}
	}
	return api.Frame{}, false
}

func TestWitnesses(t *testing.T) { // P7.2
	r := rand.New(rand.NewSource(75))
	for range 1000 {
		l := randomFilters(r, 6)
		for _, a := range l {
			for _, b := range l {
				x, found := between(a, b)
				if covers := Covers(a, b); covers == found {
					t.Fatalf("Covers(%s, %s) = %t, but for the frame %+v", pattern(a), pattern(b), covers, x)
				}
				both := api.Frame{Ext: a.Ext, ID: a.Match | b.Match}
				if Meets(a, b) && (!Takes(a, both) || !Takes(b, both)) {
					t.Fatalf("Meets(%s, %s), but not in %+v", pattern(a), pattern(b), both)
				}
				for range 3 {
					some := randomFrame(r, a)
					if Takes(a, some) && Takes(b, some) && !Meets(a, b) {
						t.Fatalf("Meets(%s, %s) is false, but both accept %+v", pattern(a), pattern(b), some)
					}
					if Takes(a, some) && !Takes(b, some) && Covers(b, a) {
						t.Fatalf("Covers(%s, %s), but for %+v", pattern(b), pattern(a), some)
					}
				}
			}
		}
	}
}

func TestPartialOrder(t *testing.T) { // P7.2
	check := func(l []api.Filter) {
		for _, a := range l {
			if !Covers(a, a) || !Meets(a, a) {
				t.Fatalf("%s does not cover and meet itself", pattern(a))
			}
			for _, b := range l {
				if Covers(a, b) && Covers(b, a) && a != b {
					t.Fatalf("%s and %s cover each other", pattern(a), pattern(b))
				}
				if Covers(a, b) && !Meets(a, b) {
					t.Fatalf("%s covers %s and does not meet it", pattern(a), pattern(b))
				}
				for _, c := range l {
					if Covers(a, b) && Covers(b, c) && !Covers(a, c) {
						t.Fatalf("%s covers %s, that one %s, but the first not the last", pattern(a), pattern(b), pattern(c))
					}
					if Covers(a, b) && Meets(b, c) && !Meets(a, c) {
						t.Fatalf("%s covers %s, which meets %s, but the first does not", pattern(a), pattern(b), pattern(c))
					}
				}
			}
		}
	}
	check(slices.Concat(fewBits(false, [3]int{0, 5, 10}), fewBits(true, [3]int{0, 5, 10})))
	check(fewBits(true, [3]int{0, 11, 28}))
	r := rand.New(rand.NewSource(76))
	for range 300 {
		check(randomFilters(r, 10))
	}
}

func TestTopAndBottom(t *testing.T) { // P7.2
	r := rand.New(rand.NewSource(77))
	for _, f := range randomFilters(r, 1000) {
		if !Covers(api.Filter{Ext: f.Ext}, f) || Covers(api.Filter{Ext: !f.Ext}, f) {
			t.Fatalf("what covers %+v is not the filter without a mask of its kind alone", f)
		}
		x := randomFrame(r, f)
		exact := api.Filter{Ext: x.Ext, Mask: 1<<width(x.Ext) - 1, Match: x.ID}
		if Covers(f, exact) != Takes(f, x) || Meets(f, exact) != Takes(f, x) {
			t.Fatalf("%+v accepts %+v, or not, but covers or meets its filter otherwise", f, x)
		}
	}
}

func TestArgumentsStay(t *testing.T) { // P3
	r := rand.New(rand.NewSource(78))
	for range 500 {
		l := randomFilters(r, 1+r.Intn(8))
		x := randomFrame(r, l[0])
		keptFilters, keptData, keptLen := slices.Clone(l), slices.Clone(x.Data), x.Len
		first := Any(l, x)
		Takes(l[0], x)
		if !slices.Equal(l, keptFilters) || !slices.Equal(x.Data, keptData) || x.Len != keptLen {
			t.Fatalf("arguments were changed to %+v and %+v", l, x)
		}
		if Any(l, x) != first {
			t.Fatalf("Any(%+v, %+v) is not always %t", l, x, first)
		}
	}
}

func TestMany(t *testing.T) { // P1
	l := slices.Repeat([]api.Filter{{Mask: 1, Match: 1}}, 1<<20)
	if Any(l, api.Frame{ID: 2}) {
		t.Error("many filters for odd identifiers accept an even one")
	}
	if !Any(append(l, api.Filter{Mask: 1}), api.Frame{ID: 2}) {
		t.Error("the last of many filters is left out")
	}
}

func TestWrongArguments(t *testing.T) { // nothing is specified for these, but that no call panics or goes on for ever
	numbers := []int{math.MinInt, -1 << 29, -1, 0, 1, 1 << 11, 1 << 29, math.MaxInt}
	for _, p := range numbers {
		for _, q := range numbers {
			a := api.Filter{Mask: p, Match: q}
			for _, b := range []api.Filter{a, {Mask: q, Match: p}, {Ext: true, Mask: q, Match: p}, {}} {
				Covers(a, b)
				Meets(a, b)
				Takes(b, api.Frame{ID: p, Len: q, Data: []byte{1}})
				Any([]api.Filter{a, b}, api.Frame{Ext: true, ID: q, Len: p})
			}
		}
	}
}
