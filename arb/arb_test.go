package arb

import (
	"fmt"
	"math"
	"math/rand"
	"slices"
	"sort"
	"strings"
	"testing"

	"phaeton/api"
	"phaeton/frame"
)

const (
	topShort  = 1<<11 - 1
	topLong   = 1<<29 - 1
	lowerBits = 18
)

func short(id int) api.Frame       { return api.Frame{ID: id} }
func shortRemote(id int) api.Frame { return api.Frame{ID: id, Remote: true} }
func long(id int) api.Frame        { return api.Frame{Ext: true, ID: id} }
func longRemote(id int) api.Frame  { return api.Frame{Ext: true, ID: id, Remote: true} }

// row returns the bits that a text of digits and spaces has.
func row(text string) []int {
	l := []int{}
	for _, c := range strings.ReplaceAll(text, " ", "") {
		l = append(l, int(c-'0'))
	}
	return l
}

// text is row's inverse.
func text(l []int) string {
	var b strings.Builder
	for _, bit := range l {
		b.WriteByte('0' + byte(bit))
	}
	return b.String()
}

// someFrames holds frames of both kinds, remote and not: the edges, each single bit, and such as share their upper bits.
func someFrames() []api.Frame {
	upper := []int{0, 1, 2, 3, 0x123, 0x2AA, 0x555, 0x7FE, topShort}
	for by := range 11 {
		upper = append(upper, 1<<by)
	}
	lower := []int{0, 1, 2, 0x15555, 0x2AAAA, 1<<lowerBits - 1}
	var all []api.Frame
	for _, id := range upper {
		all = append(all, short(id), shortRemote(id))
		for _, rest := range lower {
			all = append(all, long(id<<lowerBits|rest), longRemote(id<<lowerBits|rest))
		}
	}
	for by := range 29 {
		all = append(all, long(1<<by), longRemote(1<<by))
	}
	return all
}

// randomFrames returns frames whose identifiers have few upper bits, so that many of them share some, or all.
func randomFrames(r *rand.Rand, many int) []api.Frame {
	mask := r.Intn(topShort + 1)
	fixed := r.Intn(topShort+1) &^ mask
	var all []api.Frame
	for range many {
		f := api.Frame{Ext: r.Intn(2) == 1, ID: fixed | r.Intn(topShort+1)&mask, Remote: r.Intn(2) == 1, Len: r.Intn(9)}
		if f.Ext {
			f.ID = f.ID<<lowerBits | r.Intn(1<<r.Intn(lowerBits+1))
		}
		if !f.Remote {
			f.Data = make([]byte, f.Len)
			r.Read(f.Data)
		}
		all = append(all, f)
	}
	return all
}

// manyRandom calls check with slices of few and of many random frames.
func manyRandom(check func(r *rand.Rand, l []api.Frame)) {
	r := rand.New(rand.NewSource(6))
	for range 4000 {
		check(r, randomFrames(r, r.Intn(9)))
	}
	for range 40 {
		check(r, randomFrames(r, 50+r.Intn(100)))
	}
}

// The chapter, written out on texts and without the package's own steps.

func plainRank(f api.Frame) string {
	remote := 0
	if f.Remote {
		remote = 1
	}
	if f.Ext {
		return fmt.Sprintf("%011b11%018b%d", f.ID>>lowerBits, f.ID%(1<<lowerBits), remote)
	}
	return fmt.Sprintf("%011b%d0", f.ID, remote)
}

func plainRanks(l []api.Frame) []string {
	var ranks []string
	for _, f := range l {
		ranks = append(ranks, plainRank(f))
	}
	return ranks
}

// arbitrate goes position by position, with what each frame has lost so far as the one thing it keeps.
func arbitrate(l []api.Frame) (win int, lost []int, line string) {
	ranks := plainRanks(l)
	lost = make([]int, len(l))
	for i := range lost {
		lost[i] = -1
	}
	for position := range 32 {
		column := ""
		for i, rank := range ranks {
			if lost[i] < 0 && position < len(rank) {
				column += rank[position : position+1]
			}
		}
		if column == "" {
			continue
		}
		if !strings.Contains(column, "0") {
			line += "1"
			continue
		}
		line += "0"
		for i, rank := range ranks {
			if lost[i] < 0 && position < len(rank) && rank[position] == '1' {
				lost[i] = position
			}
		}
	}
	for i := range lost {
		if lost[i] < 0 {
			return i, lost, line
		}
	}
	return -1, lost, line
}

func checkArbitration(t *testing.T, l []api.Frame) {
	t.Helper()
	win, lost, line := arbitrate(l)
	if got := Win(l); got != win {
		t.Fatalf("Win(%v) = %d; want %d", l, got, win)
	}
	if got := Lost(l); !slices.Equal(got, lost) {
		t.Fatalf("Lost(%v) = %v; want %v", l, got, lost)
	}
	if got := text(Line(l)); got != line {
		t.Fatalf("Line(%v) = %s; want %s", l, got, line)
	}
}

func TestAnd(t *testing.T) { // P6.1, F1
	tests := []struct {
		l    []int
		want int
	}{
		{nil, 1},
		{[]int{}, 1},
		{[]int{0}, 0},
		{[]int{1}, 1},
		{[]int{1, 0, 1}, 0},
		{[]int{0, 0, 0}, 0},
		{[]int{1, 1, 1}, 1},
	}
	for _, test := range tests {
		if got := And(test.l); got != test.want {
			t.Errorf("And(%v) = %d", test.l, got)
		}
	}
	long := slices.Repeat([]int{1}, 100)
	if And(long) != 1 {
		t.Error("And of a hundred 1s is not 1")
	}
	for i := range long {
		long[i] = 0
		if And(long) != 0 {
			t.Errorf("And of 1s with a 0 at %d is not 0", i)
		}
		long[i] = 1
	}
}

func TestExamples(t *testing.T) { // P6.1, F2 to F4
	tests := []struct {
		l    []api.Frame
		win  int
		lost []int
		line string
	}{
		{nil, -1, nil, ""},
		{[]api.Frame{}, -1, nil, ""},
		{[]api.Frame{short(0)}, 0, []int{-1}, "00000000000 00"},
		{[]api.Frame{shortRemote(topShort)}, 0, []int{-1}, "11111111111 10"},
		{[]api.Frame{longRemote(topLong)}, 0, []int{-1}, "11111111111 11 111111111111111111 1"},
		{[]api.Frame{short(5), short(3), short(9)}, 1, []int{8, -1, 7}, "00000000011 00"},
		{[]api.Frame{short(3), long(3)}, 1, []int{9, -1}, "00000000000 11 000000000000000011 0"},
		{[]api.Frame{shortRemote(0), long(3)}, 0, []int{-1, 12}, "00000000000 10"},
		{[]api.Frame{short(0), long(3)}, 0, []int{-1, 11}, "00000000000 00"},
		{[]api.Frame{short(topShort), short(0)}, 1, []int{0, -1}, "00000000000 00"},
		{[]api.Frame{short(1), short(0)}, 1, []int{10, -1}, "00000000000 00"},
		{[]api.Frame{longRemote(9), long(9)}, 1, []int{31, -1}, "00000000000 11 000000000000001001 0"},
		{[]api.Frame{long(1 << 17), long(0)}, 1, []int{13, -1}, "00000000000 11 000000000000000000 0"},
		// One that has stopped no longer counts: the 0s of ID 4 do not stop ID 3.
		{[]api.Frame{short(4), short(3), short(3)}, 1, []int{8, -1, -1}, "00000000011 00"},
		{[]api.Frame{longRemote(5), long(5), shortRemote(0), short(0), short(0)}, 3, []int{11, 11, 11, -1, -1}, "00000000000 00"},
	}
	for _, test := range tests {
		if got := Win(test.l); got != test.win {
			t.Errorf("Win(%v) = %d; want %d", test.l, got, test.win)
		}
		if got := Lost(test.l); !slices.Equal(got, test.lost) {
			t.Errorf("Lost(%v) = %v; want %v", test.l, got, test.lost)
		}
		if got := Line(test.l); !slices.Equal(got, row(test.line)) {
			t.Errorf("Line(%v) = %v; want %s", test.l, got, test.line)
		}
	}
}

func TestPairs(t *testing.T) { // P6.1, F2 to F4
	all := someFrames()
	for _, a := range all {
		for _, b := range all {
			checkArbitration(t, []api.Frame{a, b})
		}
	}
	checkArbitration(t, all)
}

func TestRandom(t *testing.T) { // P6.1, F2 to F4
	manyRandom(func(_ *rand.Rand, l []api.Frame) { checkArbitration(t, l) })
}

func TestLeast(t *testing.T) { // P6.2
	check := func(l []api.Frame) {
		ranks := plainRanks(l)
		least := slices.Min(ranks)
		if got := Win(l); got != slices.Index(ranks, least) {
			t.Fatalf("Win(%v) = %d; want %d", l, got, slices.Index(ranks, least))
		}
		if got := text(Line(l)); got != least {
			t.Fatalf("Line(%v) = %s; want %s", l, got, least)
		}
		if got := Line(l); !slices.Equal(got, frame.Rank(l[Win(l)])) {
			t.Fatalf("Line(%v) = %s, which is not the winner's arbitration field", l, text(got))
		}
		for i, position := range Lost(l) {
			if (position == -1) != (ranks[i] == least) {
				t.Fatalf("Lost(%v) has %d for frame %d, whose arbitration field is %s", l, position, i, ranks[i])
			}
		}
	}
	for _, f := range someFrames() {
		check([]api.Frame{f})
	}
	manyRandom(func(r *rand.Rand, l []api.Frame) {
		if len(l) == 0 {
			return
		}
		check(l)
		// Some of them twice, so that several compete to the end.
		check(append(slices.Clone(l), l[:1+r.Intn(len(l))]...))
	})
}

func TestSameField(t *testing.T) { // P6.2
	// What is not in the arbitration field decides nothing: the first one is first.
	l := []api.Frame{
		{ID: 8},
		{ID: 7, Len: 8, Data: []byte{9, 9, 9, 9, 9, 9, 9, 9}},
		{ID: 7},
		{ID: 7, Len: 1, Data: []byte{0}},
	}
	if win, lost := Win(l), Lost(l); win != 1 || !slices.Equal(lost, []int{7, -1, -1, -1}) {
		t.Errorf("Win and Lost are %d and %v", win, lost)
	}
	remote := []api.Frame{{ID: 7, Remote: true, Len: 8}, {ID: 7, Remote: true}}
	if win, lost := Win(remote), Lost(remote); win != 0 || !slices.Equal(lost, []int{-1, -1}) {
		t.Errorf("Win and Lost of remote frames are %d and %v", win, lost)
	}
}

func TestOrder(t *testing.T) { // P6.3
	manyRandom(func(r *rand.Rand, l []api.Frame) {
		if len(l) == 0 {
			return
		}
		line, winner := Line(l), l[Win(l)]
		mixed := slices.Clone(l)
		r.Shuffle(len(mixed), func(i, j int) { mixed[i], mixed[j] = mixed[j], mixed[i] })
		if got := Line(mixed); !slices.Equal(got, line) {
			t.Fatalf("Line(%v) = %s; in another order it is %s", mixed, text(got), text(line))
		}
		if got := plainRank(mixed[Win(mixed)]); got != text(line) {
			t.Fatalf("Win(%v) has %s; in another order it has %s", mixed, got, text(line))
		}
		// Without some of the others.
		few := append(slices.Clone(mixed[:r.Intn(len(mixed))]), winner)
		if got := Line(few); !slices.Equal(got, line) {
			t.Fatalf("Line(%v) = %s; with others it is %s", few, text(got), text(line))
		}
		if got := plainRank(few[Win(few)]); got != text(line) {
			t.Fatalf("Win(%v) has %s; with others it has %s", few, got, text(line))
		}
	})
}

// checkBefore checks that a wins over b, wherever they stand.
func checkBefore(t *testing.T, a, b api.Frame) {
	t.Helper()
	if Win([]api.Frame{a, b}) != 0 || Win([]api.Frame{b, a}) != 1 {
		t.Fatalf("%v does not win over %v", a, b)
	}
}

func TestSmallerWins(t *testing.T) { // P6.3
	r := rand.New(rand.NewSource(63))
	for id := range topShort {
		above := id + 1 + r.Intn(topShort-id)
		checkBefore(t, short(id), short(id+1))
		checkBefore(t, short(id), short(above))
		checkBefore(t, shortRemote(id), shortRemote(id+1))
		checkBefore(t, shortRemote(id), shortRemote(above))
		// Kinds that differ in Remote alone are ranked by the identifier first.
		checkBefore(t, shortRemote(id), short(id+1))
	}
	for range 4000 {
		id := r.Intn(topLong)
		above := id + 1 + r.Intn(topLong-id)
		checkBefore(t, long(id), long(id+1))
		checkBefore(t, long(id), long(above))
		checkBefore(t, longRemote(id), longRemote(id+1))
		checkBefore(t, longRemote(id), longRemote(above))
		checkBefore(t, longRemote(id), long(id+1))
	}
	checkBefore(t, long(topLong-1), long(topLong))
	checkBefore(t, long(0), long(topLong))
}

func TestKinds(t *testing.T) { // P6.3
	r := rand.New(rand.NewSource(64))
	for id := range topShort + 1 {
		checkBefore(t, short(id), shortRemote(id))
		for _, rest := range []int{0, 1, 1<<lowerBits - 1, r.Intn(1 << lowerBits)} {
			for _, extended := range []api.Frame{long(id<<lowerBits | rest), longRemote(id<<lowerBits | rest)} {
				checkBefore(t, short(id), extended)
				checkBefore(t, shortRemote(id), extended)
			}
		}
		// But an extended frame wins over a short one whose identifier is greater than its upper bits.
		if id > 0 {
			checkBefore(t, longRemote(id<<lowerBits-1), short(id))
		}
	}
}

// wins removes the winners of l one by one, and returns them.
func wins(t *testing.T, l []api.Frame) []api.Frame {
	t.Helper()
	rest, out := slices.Clone(l), []api.Frame{}
	for range l {
		win := Win(rest)
		if win < 0 || win >= len(rest) {
			t.Fatalf("Win(%v) = %d", rest, win)
		}
		out = append(out, rest[win])
		rest = slices.Delete(rest, win, win+1)
	}
	return out
}

func TestEach(t *testing.T) { // P6.4
	check := func(l []api.Frame) {
		// Frames with one arbitration field are removed in their order in the slice, hence a stable sort.
		want := slices.Clone(l)
		sort.SliceStable(want, func(i, j int) bool { return plainRank(want[i]) < plainRank(want[j]) })
		if got := wins(t, l); !slices.EqualFunc(got, want, frame.Same) {
			t.Fatalf("the winners of %v are %v; want %v", l, got, want)
		}
	}
	check(someFrames())
	check(slices.Concat(someFrames(), someFrames()))
	manyRandom(func(_ *rand.Rand, l []api.Frame) { check(l) })
}

func TestArgumentsStay(t *testing.T) { // P3
	manyRandom(func(_ *rand.Rand, l []api.Frame) {
		kept := make([]api.Frame, len(l))
		for i, f := range l {
			kept[i] = f
			kept[i].Data = slices.Clone(f.Data)
		}
		Win(l)
		lost, line := Lost(l), Line(l)
		// What was answered once is nobody else's.
		for i := range lost {
			lost[i] = 99
		}
		for i := range line {
			line[i] = 99
		}
		checkArbitration(t, l)
		if !slices.EqualFunc(l, kept, frame.Same) {
			t.Fatalf("%v was changed to %v", kept, l)
		}
	})
	bits := []int{1, 0, 1, 1}
	And(bits)
	if !slices.Equal(bits, []int{1, 0, 1, 1}) {
		t.Errorf("And changed its argument to %v", bits)
	}
}

func TestMany(t *testing.T) { // P1
	r := rand.New(rand.NewSource(1))
	l := randomFrames(r, 20000)
	checkArbitration(t, l)
	if got := And(slices.Repeat([]int{1}, 1<<20)); got != 1 {
		t.Errorf("And of many 1s is %d", got)
	}
}

func TestWrongFrames(t *testing.T) { // nothing is specified for these, but that no call panics or goes on for ever
	wrong := []api.Frame{
		{ID: -1},
		{ID: topShort + 1},
		{ID: math.MaxInt},
		{ID: math.MinInt, Remote: true},
		{Ext: true, ID: topLong + 1},
		{Ext: true, ID: -1},
		{Ext: true, ID: math.MaxInt, Remote: true},
		{Len: 9},
		{Len: -1, Data: []byte{1}},
	}
	for _, a := range wrong {
		for _, b := range append(someFrames(), wrong...) {
			for _, l := range [][]api.Frame{{a}, {a, b}, {b, a}} {
				win, lost, line := Win(l), Lost(l), Line(l)
				if win < 0 || win >= len(l) || len(lost) != len(l) || len(line) == 0 {
					t.Fatalf("Win, Lost and Line of %v are %d, %v and %v", l, win, lost, line)
				}
			}
		}
	}
	And([]int{-1, 2, math.MaxInt, math.MinInt})
}
