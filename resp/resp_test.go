package resp

import (
	"math"
	"math/big"
	"math/rand"
	"slices"
	"testing"

	"phaeton/api"
)

// The chapter, written out by counting and by going through all numbers one by one.

// plainCeil counts the periods that together are at least as long as a.
func plainCeil(a, period int) int {
	n := a / period
	for n*period < a {
		n++
	}
	return n
}

// plainSum is the part of K2's equations that both have.
func plainSum(l []api.Stream, more, t int) int {
	sum := 0
	for _, s := range l {
		sum += s.Bits * plainCeil(t+s.Jitter+more, s.Period)
	}
	return sum
}

func plainBlock(l []api.Stream, i int) int {
	b := 0
	for k := i + 1; k < len(l); k++ {
		if l[k].Bits > b {
			b = l[k].Bits
		}
	}
	return b
}

// plainBusy is the busy period, or 0 if there is none up to 10^7.
func plainBusy(l []api.Stream, i int) int {
	b := plainBlock(l, i)
	if fills(l[:i+1], b) {
		return 0
	}
	for t := l[i].Bits; t <= 10000000; t++ {
		if t == b+plainSum(l[:i+1], 0, t) {
			return t
		}
	}
	return 0
}

// fills reports whether the streams leave no time for what else there is, so that no number needs to be tried.
func fills(l []api.Stream, more int) bool {
	used := new(big.Rat)
	for _, s := range l {
		used.Add(used, big.NewRat(int64(s.Bits), int64(s.Period)))
		more += s.Jitter
	}
	full := used.Cmp(big.NewRat(1, 1))
	return full > 0 || full == 0 && more > 0
}

func plainBound(l []api.Stream, i int) (int, bool) {
	t, b, most := plainBusy(l, i), plainBlock(l, i), 0
	if t == 0 {
		return 0, false
	}
	for q := 0; q < plainCeil(t+l[i].Jitter, l[i].Period); q++ {
		least := b + q*l[i].Bits
		w := least
		for w != least+plainSum(l[:i], 1, w) {
			w++
		}
		most = max(most, l[i].Jitter+w-q*l[i].Period+l[i].Bits)
	}
	return most, true
}

// message is a frame of a simulation that lists all of them ahead.
type message struct{ stream, due, queued int }

func messages(l []api.Stream, begins []int, until int) [][]message {
	all := make([][]message, len(l))
	for i, s := range l {
		for q := 0; begins[i]+q*s.Period < until; q++ {
			m := message{i, begins[i] + q*s.Period, begins[i] + q*s.Period}
			if q%2 == 1 {
				m.queued += s.Jitter
			}
			if q > 0 && m.queued < all[i][q-1].queued {
				m.queued = all[i][q-1].queued
			}
			all[i] = append(all[i], m)
		}
	}
	return all
}

// plainPlay goes through the time bit by bit.
func plainPlay(l []api.Stream, begins []int, until int) []int {
	all, worst, left, free := messages(l, begins, until), make([]int, len(l)), 0, 0
	for i := range all {
		left += len(all[i])
	}
	for now := 0; left > 0; now++ {
		if now < free {
			continue
		}
		for i := range all {
			if len(all[i]) == 0 || all[i][0].queued > now {
				continue
			}
			free = now + l[i].Bits
			worst[i] = max(worst[i], free-all[i][0].due)
			all[i] = all[i][1:]
			left--
			break
		}
	}
	return worst
}

// What the tests are made of.

// lightStreams returns up to most valid streams that together leave the bus some time, mostly.
func lightStreams(r *rand.Rand, most, bits int) []api.Stream {
	l := make([]api.Stream, 1+r.Intn(most))
	for i := range l {
		s := api.Stream{Bits: 1 + r.Intn(bits)}
		s.Period = max(1, s.Bits*len(l)*(50+r.Intn(200))/100)
		s.Jitter = []int{0, 0, 1, r.Intn(s.Period), s.Period, r.Intn(3*s.Period + 1)}[r.Intn(6)]
		l[i] = s
	}
	return l
}

// wildStreams returns valid streams that leave the bus time or not.
func wildStreams(r *rand.Rand) []api.Stream {
	l := make([]api.Stream, 1+r.Intn(5))
	for i := range l {
		l[i] = api.Stream{Bits: 1 + r.Intn(8), Period: 1 + r.Intn(30), Jitter: r.Intn(2) * r.Intn(40)}
	}
	return l
}

func randomBegins(r *rand.Rand, l []api.Stream) []int {
	begins, same := make([]int, len(l)), r.Intn(3) == 0
	for i, s := range l {
		if !same {
			begins[i] = r.Intn(2*s.Period + s.Jitter)
		}
	}
	return begins
}

// bad names streams that are not valid, each for one reason.
func bad() map[string]api.Stream {
	return map[string]api.Stream{
		"no bits":           {Bits: 0, Period: 1},
		"bits below 0":      {Bits: -1, Period: 1},
		"least bits":        {Bits: math.MinInt, Period: 1},
		"too many bits":     {Bits: 1001, Period: 1},
		"most bits":         {Bits: math.MaxInt, Period: 1},
		"no period":         {Bits: 1, Period: 0},
		"a period below 0":  {Bits: 1, Period: -1},
		"the least period":  {Bits: 1, Period: math.MinInt},
		"a long period":     {Bits: 1, Period: 1000001},
		"the most period":   {Bits: 1, Period: math.MaxInt},
		"a jitter below 0":  {Bits: 1, Period: 1, Jitter: -1},
		"the least jitter":  {Bits: 1, Period: 1, Jitter: math.MinInt},
		"a great jitter":    {Bits: 1, Period: 1, Jitter: 1000001},
		"the most jitter":   {Bits: 1, Period: 1, Jitter: math.MaxInt},
		"nothing":           {},
		"all three too big": {Bits: 1001, Period: 1000001, Jitter: 1000001},
	}
}

// badSlices are those that Right refuses.
func badSlices() [][]api.Stream {
	ok := api.Stream{Bits: 10, Period: 1000}
	all := [][]api.Stream{nil, {}, slices.Repeat([]api.Stream{ok}, 17), slices.Repeat([]api.Stream{ok}, 1000)}
	for _, s := range bad() {
		for _, many := range []int{1, 2, 16} {
			for at := range many {
				l := slices.Repeat([]api.Stream{ok}, many)
				l[at] = s
				all = append(all, l)
			}
		}
	}
	return all
}

// P11.1, K1

func TestRight(t *testing.T) {
	for _, bits := range []int{1, 2, 500, 999, 1000} {
		for _, period := range []int{1, 2, 999999, 1000000} {
			for _, jitter := range []int{0, 1, 999999, 1000000} {
				for many := 1; many <= 16; many++ {
					l := slices.Repeat([]api.Stream{{Bits: bits, Period: period, Jitter: jitter}}, many)
					if !Right(l) {
						t.Errorf("%d streams %+v are not valid", many, l[0])
					}
				}
			}
		}
	}
	for name, s := range bad() {
		if Right([]api.Stream{s}) {
			t.Errorf("a stream with %s is valid", name)
		}
	}
	for _, l := range badSlices() {
		if Right(l) {
			t.Errorf("%+v is valid", l)
		}
	}
}

// P11.1, K2

func TestBoundExamples(t *testing.T) {
	for i, test := range []struct {
		l    []api.Stream
		want []int // a bound for each stream, 0 where there is none
	}{
		{[]api.Stream{{Bits: 100, Period: 1000}}, []int{100}},
		{[]api.Stream{{Bits: 100, Period: 1000}, {Bits: 200, Period: 1000}}, []int{300, 300}},
		{[]api.Stream{{Bits: 100, Period: 1000, Jitter: 50}, {Bits: 200, Period: 1000}}, []int{350, 300}},
		{[]api.Stream{{Bits: 1000, Period: 1}}, []int{0}},
		// The second frame of the last stream takes longest here: 30 + 40 - 35 after 30.
		{[]api.Stream{{Bits: 10, Period: 25}, {Bits: 10, Period: 35}, {Bits: 10, Period: 35}}, []int{20, 30, 35}},
		// A frame that is queued in the bit in which the bus becomes free still goes first.
		{[]api.Stream{{Bits: 10, Period: 20}, {Bits: 5, Period: 100}, {Bits: 10, Period: 100}}, []int{20, 35, 25}},
		{[]api.Stream{{Bits: 10, Period: 21}, {Bits: 5, Period: 100}, {Bits: 10, Period: 100}}, []int{20, 25, 25}},
		// The bus is never free, and nothing has to wait; and the same with something that has.
		{[]api.Stream{{Bits: 1, Period: 1}}, []int{1}},
		{[]api.Stream{{Bits: 1000, Period: 1000}}, []int{1000}},
		{[]api.Stream{{Bits: 1, Period: 1, Jitter: 1}}, []int{0}},
		{[]api.Stream{{Bits: 1, Period: 2}, {Bits: 1, Period: 2}}, []int{2, 2}},
		{[]api.Stream{{Bits: 1, Period: 2}, {Bits: 1, Period: 2}, {Bits: 1, Period: 1000}}, []int{2, 0, 0}},
		{[]api.Stream{{Bits: 2, Period: 4}, {Bits: 2, Period: 4}, {Bits: 1, Period: 1000}}, []int{4, 0, 0}},
		{[]api.Stream{{Bits: 1, Period: 2}, {Bits: 2, Period: 3}}, []int{3, 0}},
		{[]api.Stream{{Bits: 1, Period: 1000000, Jitter: 1000000}}, []int{1000001}},
		{[]api.Stream{{Bits: 10, Period: 11, Jitter: 12}}, []int{22}},
	} {
		for k, want := range test.want {
			if got, ok := Bound(test.l, k); got != want || ok != (want > 0) {
				t.Errorf("%d: the bound of stream %d is %d, %v; want %d", i, k, got, ok, want)
			}
		}
	}
}

func TestBusyPeriodAsLongAsMayBe(t *testing.T) {
	// With 1000 bits each 1100, the least number of frames is the least m with B + Jitter <= 100 m, and the busy period B + 1000 m.
	for _, test := range []struct{ jitter, b, want int }{
		{1000000, 0, 1001000},      // 10^7
		{999901, 0, 1000901},       // 10^7
		{1000000, 1, 0},            // 10^7 + 1001
		{999999, 1, 0},             // 10^7 + 1
		{999900, 1, 0},             // 10^7 + 1
		{999899, 1, 999899 + 1001}, // 10^7 - 999
		{998900, 1000, 1000900},    // 10^7
		{998901, 1000, 0},          // 10^7 + 1000
		{998801, 999, 1000800},     // 10^7 - 1
		{998900, 999, 1000899},     // 10^7 - 1
		{998901, 999, 1000900},     // 10^7 - 1
		{998902, 999, 0},           // 10^7 + 999
	} {
		l := []api.Stream{{Bits: 1000, Period: 1100, Jitter: test.jitter}}
		if test.b > 0 {
			l = append(l, api.Stream{Bits: test.b, Period: 1000000})
		}
		if got, ok := Bound(l, 0); got != test.want || ok != (test.want > 0) {
			t.Errorf("with a jitter of %d and B = %d the bound is %d, %v; want %d", test.jitter, test.b, got, ok, test.want)
		}
	}
}

func TestBoundOfNothing(t *testing.T) {
	for _, l := range badSlices() {
		for _, i := range []int{math.MinInt, -1, 0, len(l) - 1, len(l), math.MaxInt} {
			if n, ok := Bound(l, i); n != 0 || ok {
				t.Errorf("the bound of stream %d of %+v is %d, %v", i, l, n, ok)
			}
		}
	}
	for many := 1; many <= 16; many++ {
		l := slices.Repeat([]api.Stream{{Bits: 10, Period: 1000}}, many)
		for _, i := range []int{math.MinInt, -many, -1, many, many + 1, 16, math.MaxInt} {
			if n, ok := Bound(l, i); i != many-1 && (n != 0 || ok) {
				t.Errorf("the bound of stream %d of %d is %d, %v", i, many, n, ok)
			}
		}
		if n, ok := Bound(l, many-1); n != 10*many || !ok {
			t.Errorf("the bound of stream %d of %d is %d, %v", many-1, many, n, ok)
		}
	}
}

// checkBounds holds all bounds of some streams against the plain ones, and counts what it has seen.
func checkBounds(t *testing.T, l []api.Stream, seen map[string]int) {
	t.Helper()
	before := slices.Clone(l)
	for i := range l {
		got, ok := Bound(l, i)
		want, wantOk := plainBound(before, i)
		if got != want || ok != wantOk {
			t.Fatalf("the bound of stream %d of %+v is %d, %v; want %d, %v", i, before, got, ok, want, wantOk)
		}
		switch first := before[i].Jitter + before[i].Bits + plainBlock(before, i); {
		case !ok:
			seen["none"]++
		case plainCeil(plainBusy(before, i)+l[i].Jitter, l[i].Period) > 1 && got > first:
			seen["several frames"]++
		case got > first:
			seen["one frame"]++
		default:
			seen["nothing before it"]++
		}
	}
	if !slices.Equal(l, before) {
		t.Fatalf("the streams %+v were changed to %+v", before, l)
	}
}

func TestRandomBounds(t *testing.T) { // also P3
	r := rand.New(rand.NewSource(11))
	seen := map[string]int{}
	for range 1000 {
		checkBounds(t, lightStreams(r, 6, 12), seen)
	}
	for range 300 {
		checkBounds(t, wildStreams(r), seen)
	}
	for range 20 {
		checkBounds(t, lightStreams(r, 16, 130), seen)
	}
	for _, kind := range []string{"none", "several frames", "one frame", "nothing before it"} {
		if seen[kind] < 200 {
			t.Errorf("of the random bounds %d are '%s': the test tells little", seen[kind], kind)
		}
	}
}

func TestSmallBounds(t *testing.T) { // all pairs of small streams
	var all []api.Stream
	for bits := 1; bits <= 3; bits++ {
		for period := 4; period <= 7; period++ {
			for _, jitter := range []int{0, 1, 9} {
				all = append(all, api.Stream{Bits: bits, Period: period, Jitter: jitter})
			}
		}
	}
	for _, a := range all {
		for _, b := range all {
			checkBounds(t, []api.Stream{a, b}, map[string]int{})
		}
	}
}

// P11.1, K3

func TestPlayExamples(t *testing.T) {
	one := []api.Stream{{Bits: 10, Period: 100, Jitter: 30}}
	two := []api.Stream{{Bits: 100, Period: 1000, Jitter: 50}, {Bits: 200, Period: 1000}}
	late := []api.Stream{{Bits: 3, Period: 4, Jitter: 20}}
	for i, test := range []struct {
		l      []api.Stream
		begins []int
		until  int
		want   []int
	}{
		{two, []int{0, 0}, 1000, []int{100, 300}},
		{two, []int{1, 0}, 1000, []int{299, 200}},
		{two, []int{0, 0}, 1001, []int{300, 300}},
		// A frame that is due before the end exists; one that is due at the end does not.
		{one, []int{7}, 7, []int{0}},
		{one, []int{7}, 8, []int{10}},
		{one, []int{0}, 100, []int{10}},
		{one, []int{0}, 101, []int{40}},
		{one, []int{0}, 0, []int{0}},
		{one, []int{0}, 1, []int{10}},
		{one, []int{1000000}, 1000000, []int{0}},
		{one, []int{999999}, 1000000, []int{10}},
		{one, []int{0}, 1000000, []int{40}},
		// Odd frames are late; even ones only where they would overtake: 0, 24, 24, 32, 32, ..
		{late, []int{0}, 4, []int{3}},
		{late, []int{0}, 5, []int{23}},
		{late, []int{0}, 9, []int{23}},
		{late, []int{0}, 13, []int{23}},
		{[]api.Stream{{Bits: 3, Period: 4, Jitter: 2}}, []int{0}, 9, []int{5}},
		{[]api.Stream{{Bits: 7, Period: 4, Jitter: 2}}, []int{0}, 9, []int{13}},
		// Who is queued as the bus becomes free goes first if it has the higher priority.
		{[]api.Stream{{Bits: 5, Period: 1000}, {Bits: 10, Period: 1000}, {Bits: 10, Period: 1000}}, []int{10, 0, 0}, 20, []int{5, 10, 25}},
		{[]api.Stream{{Bits: 5, Period: 1000}, {Bits: 10, Period: 1000}, {Bits: 10, Period: 1000}}, []int{11, 0, 0}, 20, []int{14, 10, 20}},
		// The bus is free for a while.
		{[]api.Stream{{Bits: 5, Period: 1000}, {Bits: 10, Period: 1000}}, []int{90, 85}, 200, []int{10, 10}},
		// Too much for the bus: all are transmitted in the end.
		{[]api.Stream{{Bits: 10, Period: 5}, {Bits: 3, Period: 100}}, []int{0, 0}, 20, []int{25, 43}},
		{[]api.Stream{{Bits: 1000, Period: 1}}, []int{0}, 1000, []int{1000*1000 - 999}},
	} {
		if got := Play(test.l, test.begins, test.until); !slices.Equal(got, test.want) {
			t.Errorf("%d: %v; want %v", i, got, test.want)
		}
	}
}

func TestPlayOfNothing(t *testing.T) {
	for _, l := range badSlices() {
		if got := Play(l, make([]int, len(l)), 100); len(got) != 0 {
			t.Errorf("of %+v it is %v", l, got)
		}
	}
	for many := 1; many <= 16; many++ {
		l := slices.Repeat([]api.Stream{{Bits: 10, Period: 1000}}, many)
		for _, begins := range [][]int{nil, make([]int, many-1), make([]int, many+1), make([]int, 17)} {
			if got := Play(l, begins, 100); len(got) != 0 {
				t.Errorf("of %d streams with %d begins it is %v", many, len(begins), got)
			}
		}
		for _, n := range []int{math.MinInt, -1, 1000001, math.MaxInt} {
			if got := Play(l, make([]int, many), n); len(got) != 0 {
				t.Errorf("until %d it is %v", n, got)
			}
			for at := range many {
				begins := make([]int, many)
				begins[at] = n
				if got := Play(l, begins, 100); len(got) != 0 {
					t.Errorf("with the begins %v it is %v", begins, got)
				}
			}
		}
		for _, n := range []int{0, 1000000} {
			if got := Play(l, slices.Repeat([]int{n}, many), 1000000-n); len(got) != many {
				t.Errorf("of %d streams from %d on it is %v", many, n, got)
			}
		}
	}
}

func TestRandomPlays(t *testing.T) { // also P3
	r := rand.New(rand.NewSource(113))
	crowded, never := 0, 0
	for n := range 4000 {
		l := wildStreams(r)
		if n%2 == 0 {
			l = lightStreams(r, 16, 12)
		}
		begins, until := randomBegins(r, l), r.Intn(600)
		before, beginsBefore := slices.Clone(l), slices.Clone(begins)
		got := Play(l, begins, until)
		want := plainPlay(before, beginsBefore, until)
		if !slices.Equal(got, want) {
			t.Fatalf("Play(%+v, %v, %d) = %v; want %v", before, beginsBefore, until, got, want)
		}
		if !slices.Equal(l, before) || !slices.Equal(begins, beginsBefore) {
			t.Fatalf("the arguments %+v, %v were changed to %+v, %v", before, beginsBefore, l, begins)
		}
		for i, worst := range got {
			if worst == 0 {
				never++
			} else if worst > l[i].Jitter+l[i].Bits {
				crowded++
			}
		}
	}
	if crowded < 1000 || never < 200 {
		t.Errorf("%d streams had to wait, and %d had no frames: the test tells little", crowded, never)
	}
}

// P11.2

// checkNeverLater holds what a simulation tells against the bounds, and returns how many bounds are reached.
func checkNeverLater(t *testing.T, l []api.Stream, begins []int, until int) int {
	t.Helper()
	reached := 0
	for i, worst := range Play(l, begins, until) {
		bound, ok := Bound(l, i)
		if ok && worst > bound {
			t.Fatalf("of %+v with the begins %v, a frame of stream %d took %d; its bound is %d", l, begins, i, worst, bound)
		}
		if ok && worst == bound {
			reached++
		}
	}
	return reached
}

func TestNeverLater(t *testing.T) {
	r := rand.New(rand.NewSource(112))
	reached := 0
	for n := range 3000 {
		l := lightStreams(r, 16, []int{5, 12, 130, 1000}[n%4])
		for range 4 {
			reached += checkNeverLater(t, l, randomBegins(r, l), []int{100, 2000, 20000}[r.Intn(3)])
		}
	}
	if reached < 300 {
		t.Errorf("%d bounds were reached: the test tells little", reached)
	}
}

func TestNeverLaterWhateverTheBegins(t *testing.T) {
	r := rand.New(rand.NewSource(1121))
	reached := 0
	for range 40 {
		l := make([]api.Stream, 3)
		for i := range l {
			l[i] = api.Stream{Bits: 1 + r.Intn(3), Period: 5 + r.Intn(6), Jitter: r.Intn(2) * r.Intn(12)}
		}
		for a := range l[0].Period {
			for b := range l[1].Period {
				for c := range l[2].Period {
					reached += checkNeverLater(t, l, []int{a, b, c}, 150)
				}
			}
		}
	}
	if reached < 1000 {
		t.Errorf("%d bounds were reached: the test tells little", reached)
	}
}

// P11.3

// notSmaller holds the bounds of some streams against those of what became of them.
func notSmaller(t *testing.T, l, more []api.Stream) (larger, gone int) {
	t.Helper()
	for i := range l {
		was, ok := Bound(l, i)
		is, still := Bound(more, i)
		if still && (!ok || is < was) {
			t.Fatalf("of %+v the bound of stream %d is %d, %v; of %+v it is %d", l, i, was, ok, more, is)
		}
		if ok && !still {
			gone++
		}
		if still && is > was {
			larger++
		}
	}
	return larger, gone
}

func TestMore(t *testing.T) {
	r := rand.New(rand.NewSource(1131))
	larger, gone := 0, 0
	for n := range 3000 {
		l := lightStreams(r, 16, []int{4, 40, 400}[n/3%3])
		more, at := slices.Clone(l), r.Intn(len(l))
		switch s := &more[at]; n % 3 {
		case 0:
			s.Bits = min(1000, s.Bits+1+r.Intn(s.Bits))
		case 1:
			s.Period = max(1, s.Period-1-r.Intn(s.Period))
		case 2:
			s.Jitter += 1 + r.Intn(s.Period)
		}
		up, off := notSmaller(t, l, more)
		larger, gone = larger+up, gone+off
	}
	if larger < 1000 || gone < 300 {
		t.Errorf("%d bounds became larger, and %d ceased: the test tells little", larger, gone)
	}
}

func TestOnlyTheLongestAfterMatters(t *testing.T) {
	r := rand.New(rand.NewSource(1132))
	many := 0
	for range 1500 {
		l := lightStreams(r, 10, 100)
		for i := range len(l) - 1 {
			want, ok := Bound(l, i)
			after := append([]api.Stream{}, l[i+1:]...)
			b := plainBlock(l, i)
			for k := range after { // all else about them is new, and some are shorter
				after[k].Period, after[k].Jitter = 1+r.Intn(500), r.Intn(500)
				if after[k].Bits < b {
					after[k].Bits = 1 + r.Intn(b)
				}
			}
			r.Shuffle(len(after), func(a, b int) { after[a], after[b] = after[b], after[a] })
			for _, rest := range [][]api.Stream{after, {{Bits: b, Period: 1}}, slices.Repeat([]api.Stream{{Bits: b, Period: 9}}, 15-i)} {
				changed := slices.Concat(l[:i+1], rest)
				if got, still := Bound(changed, i); got != want || still != ok {
					t.Fatalf("the bound of stream %d of %+v is %d, %v; of %+v it is %d, %v", i, l, want, ok, changed, got, still)
				}
			}
			if ok {
				many++
			}
		}
	}
	if many < 1000 {
		t.Errorf("%d bounds existed: the test tells little", many)
	}
}

func TestOrderBeforeDoesNotMatter(t *testing.T) {
	r := rand.New(rand.NewSource(1133))
	many := 0
	for range 1500 {
		l := lightStreams(r, 10, 100)
		for i := 2; i < len(l); i++ {
			want, ok := Bound(l, i)
			changed := slices.Clone(l)
			r.Shuffle(i, func(a, b int) { changed[a], changed[b] = changed[b], changed[a] })
			if got, still := Bound(changed, i); got != want || still != ok {
				t.Fatalf("the bound of stream %d of %+v is %d, %v; of %+v it is %d, %v", i, l, want, ok, changed, got, still)
			}
			if ok {
				many++
			}
		}
	}
	if many < 1000 {
		t.Errorf("%d bounds existed: the test tells little", many)
	}
}

// P11.4

func TestLeast(t *testing.T) {
	r := rand.New(rand.NewSource(114))
	many := 0
	for n := range 3000 {
		l := lightStreams(r, 16, []int{4, 40, 400, 1000}[n%4])
		for i, s := range l {
			bound, ok := Bound(l, i)
			if ok {
				many++
			}
			if ok && (bound < s.Jitter || bound < s.Bits || bound < plainBlock(l, i)) {
				t.Fatalf("the bound of stream %d of %+v is %d", i, l, bound)
			}
		}
	}
	if many < 5000 {
		t.Errorf("%d bounds existed: the test tells little", many)
	}
}

// P1

func TestTheMostThatMayBeEnds(t *testing.T) {
	slow := []api.Stream{{Bits: 1, Period: 1}, {Bits: 1, Period: 1000000}}
	if n, ok := Bound(slow, 0); n != 0 || ok {
		t.Errorf("the bound of a bus that is full is %d, %v", n, ok)
	}
	// The bounds of queues that are nearly as long as may be; their busy periods have some 9 * 10^6 bits.
	for _, test := range []struct {
		l    []api.Stream
		want int
	}{
		{[]api.Stream{{Bits: 2, Period: 5, Jitter: 1000000}, {Bits: 1, Period: 2, Jitter: 1000000}}, 1666669},
		{append(slices.Repeat([]api.Stream{{Bits: 1, Period: 38, Jitter: 1000000}}, 15), api.Stream{Bits: 1, Period: 2, Jitter: 1000000}), 1652186},
	} {
		if n, ok := Bound(test.l, len(test.l)-1); n != test.want || !ok {
			t.Errorf("the bound of a long queue is %d, %v; want %d", n, ok, test.want)
		}
	}
	// All frames but the first ones are queued from 10^6 + 1 on, and then the bus is never free until all are gone.
	got := Play(slices.Repeat([]api.Stream{{Bits: 1000, Period: 1, Jitter: 1000000}}, 16), make([]int, 16), 1000000)
	for i := range 16 {
		if len(got) != 16 || got[i] != 2+999999000*(i+1) {
			t.Fatalf("of the most frames that may be it is %v", got)
		}
	}
}
