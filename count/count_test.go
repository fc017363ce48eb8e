package count

import (
	"math"
	"math/rand"
	"slices"
	"testing"

	"phaeton/api"
)

// The chapter, written out on plain numbers.

func plainRight(c api.Counter) bool {
	active := c.State == 1 && c.Tec >= 0 && c.Tec <= 127 && c.Rec >= 0 && c.Rec <= 127 && c.Rest == 0
	passive := c.State == 2 && c.Tec >= 0 && c.Tec <= 255 && c.Rec >= 0 && c.Rec <= 255 && (c.Tec >= 128 || c.Rec >= 128) && c.Rest == 0
	off := c.State == 3 && c.Tec == 256 && c.Rec == 0 && c.Rest >= 0 && c.Rest <= 127
	return active || passive || off
}

func plainStep(c api.Counter, what int) api.Counter {
	tec, rec := c.Tec, c.Rec
	if c.State == 3 {
		switch {
		case what == 6 && c.Rest == 127:
			return api.Counter{State: 1}
		case what == 6:
			return api.Counter{Tec: 256, State: 3, Rest: c.Rest + 1}
		}
		return c
	}
	switch what {
	case 1:
		if tec > 0 {
			tec--
		}
	case 2:
		if rec > 127 {
			rec = 127
		} else if rec > 0 {
			rec--
		}
	case 3:
		tec += 8
	case 4:
		if rec < 255 {
			rec++
		}
	case 5:
		if rec > 247 {
			rec = 255
		} else {
			rec += 8
		}
	}
	if tec >= 256 {
		return api.Counter{Tec: 256, State: 3}
	}
	if tec >= 128 || rec >= 128 {
		return api.Counter{Tec: tec, Rec: rec, State: 2}
	}
	return api.Counter{Tec: tec, Rec: rec, State: 1}
}

// allValid returns every valid counter.
func allValid() []api.Counter {
	var all []api.Counter
	for tec := range 256 {
		for rec := range 256 {
			state := api.Active
			if tec > 127 || rec > 127 {
				state = api.Passive
			}
			all = append(all, api.Counter{Tec: tec, Rec: rec, State: state})
		}
	}
	for rest := range 128 {
		all = append(all, api.Counter{Tec: 256, State: api.Off, Rest: rest})
	}
	return all
}

// occurrences are all that have an effect somewhere, and some that have none.
var occurrences = []int{
	api.TxOk, api.RxOk, api.TxErr, api.RxErr, api.RxLong, api.Calm,
	0, 7, 8, 9, 255, 256, 257, -1, -3, math.MinInt, math.MaxInt, 1 << 32, 1<<32 + 3,
}

func TestNew(t *testing.T) { // P8.1, H1
	if got := New(); got != (api.Counter{State: api.Active}) {
		t.Errorf("New() = %+v", got)
	}
	if !Right(New()) {
		t.Error("New() is not valid")
	}
}

func TestRight(t *testing.T) { // P8.1, H1
	tests := []struct {
		c    api.Counter
		want bool
	}{
		{api.Counter{}, false},
		{api.Counter{State: api.Active}, true},
		{api.Counter{State: api.Active, Tec: 127, Rec: 127}, true},
		{api.Counter{State: api.Active, Tec: 128}, false},
		{api.Counter{State: api.Active, Rec: 128}, false},
		{api.Counter{State: api.Active, Tec: -1}, false},
		{api.Counter{State: api.Active, Rec: -1}, false},
		{api.Counter{State: api.Active, Rest: 1}, false},
		{api.Counter{State: api.Active, Rest: -1}, false},
		{api.Counter{State: api.Passive}, false},
		{api.Counter{State: api.Passive, Tec: 127, Rec: 127}, false},
		{api.Counter{State: api.Passive, Tec: 128}, true},
		{api.Counter{State: api.Passive, Rec: 128}, true},
		{api.Counter{State: api.Passive, Tec: 255, Rec: 255}, true},
		{api.Counter{State: api.Passive, Tec: 256}, false},
		{api.Counter{State: api.Passive, Rec: 256}, false},
		{api.Counter{State: api.Passive, Tec: 128, Rec: -1}, false},
		{api.Counter{State: api.Passive, Tec: -1, Rec: 128}, false},
		{api.Counter{State: api.Passive, Tec: 128, Rest: 1}, false},
		{api.Counter{State: api.Off}, false},
		{api.Counter{State: api.Off, Tec: 256}, true},
		{api.Counter{State: api.Off, Tec: 256, Rest: 127}, true},
		{api.Counter{State: api.Off, Tec: 256, Rest: 128}, false},
		{api.Counter{State: api.Off, Tec: 256, Rest: -1}, false},
		{api.Counter{State: api.Off, Tec: 256, Rec: 1}, false},
		{api.Counter{State: api.Off, Tec: 256, Rec: -1}, false},
		{api.Counter{State: api.Off, Tec: 255}, false},
		{api.Counter{State: api.Off, Tec: 257}, false},
		{api.Counter{State: 4}, false},
		{api.Counter{State: 4, Tec: 256}, false},
		{api.Counter{State: -1}, false},
		{api.Counter{State: math.MaxInt, Tec: 128}, false},
		{api.Counter{State: math.MinInt}, false},
		{api.Counter{State: api.Active, Tec: math.MinInt, Rec: math.MaxInt}, false},
		{api.Counter{State: api.Passive, Tec: math.MaxInt, Rec: math.MinInt}, false},
	}
	for _, test := range tests {
		if got := Right(test.c); got != test.want {
			t.Errorf("Right(%+v) = %t", test.c, got)
		}
	}
}

func TestRightEach(t *testing.T) { // P8.1, H1
	states := []int{math.MinInt, -1, 0, 1, 2, 3, 4, 1 << 32, 1<<32 + 1, math.MaxInt}
	counts := []int{math.MinInt, -256, -129, -128, -127, -1, 0, 1, 2, 120, 126, 127, 128, 129, 200, 254, 255, 256, 257, 1 << 32, 1<<32 + 1, math.MaxInt}
	for _, state := range states {
		for _, tec := range counts {
			for _, rec := range counts {
				for _, rest := range counts {
					c := api.Counter{Tec: tec, Rec: rec, State: state, Rest: rest}
					if got := Right(c); got != plainRight(c) {
						t.Fatalf("Right(%+v) = %t", c, got)
					}
				}
			}
		}
	}
	for _, c := range allValid() {
		if !Right(c) {
			t.Fatalf("Right(%+v) = false", c)
		}
	}
}

func TestStep(t *testing.T) { // P8.1, H2
	tests := []struct {
		was  api.Counter
		what int
		want api.Counter
	}{
		{New(), api.TxOk, New()},
		{New(), api.RxOk, New()},
		{New(), api.TxErr, api.Counter{Tec: 8, State: api.Active}},
		{New(), api.RxErr, api.Counter{Rec: 1, State: api.Active}},
		{New(), api.RxLong, api.Counter{Rec: 8, State: api.Active}},
		{New(), api.Calm, New()},
		{New(), 0, New()},
		{New(), 7, New()},
		{New(), -3, New()},
		{api.Counter{Tec: 1, Rec: 1, State: api.Active}, api.TxOk, api.Counter{Rec: 1, State: api.Active}},
		{api.Counter{Tec: 1, Rec: 1, State: api.Active}, api.RxOk, api.Counter{Tec: 1, State: api.Active}},
		{api.Counter{Tec: 119, State: api.Active}, api.TxErr, api.Counter{Tec: 127, State: api.Active}},
		{api.Counter{Tec: 120, State: api.Active}, api.TxErr, api.Counter{Tec: 128, State: api.Passive}},
		{api.Counter{Rec: 126, State: api.Active}, api.RxErr, api.Counter{Rec: 127, State: api.Active}},
		{api.Counter{Rec: 127, State: api.Active}, api.RxErr, api.Counter{Rec: 128, State: api.Passive}},
		{api.Counter{Rec: 119, State: api.Active}, api.RxLong, api.Counter{Rec: 127, State: api.Active}},
		{api.Counter{Rec: 120, State: api.Active}, api.RxLong, api.Counter{Rec: 128, State: api.Passive}},
		{api.Counter{Tec: 128, State: api.Passive}, api.TxOk, api.Counter{Tec: 127, State: api.Active}},
		{api.Counter{Tec: 129, State: api.Passive}, api.TxOk, api.Counter{Tec: 128, State: api.Passive}},
		{api.Counter{Tec: 128, Rec: 128, State: api.Passive}, api.TxOk, api.Counter{Tec: 127, Rec: 128, State: api.Passive}},
		{api.Counter{Tec: 128, Rec: 128, State: api.Passive}, api.RxOk, api.Counter{Tec: 128, Rec: 127, State: api.Passive}},
		{api.Counter{Rec: 128, State: api.Passive}, api.RxOk, api.Counter{Rec: 127, State: api.Active}},
		{api.Counter{Rec: 255, State: api.Passive}, api.RxOk, api.Counter{Rec: 127, State: api.Active}},
		{api.Counter{Rec: 127, State: api.Active}, api.RxOk, api.Counter{Rec: 126, State: api.Active}},
		{api.Counter{Rec: 254, State: api.Passive}, api.RxErr, api.Counter{Rec: 255, State: api.Passive}},
		{api.Counter{Rec: 255, State: api.Passive}, api.RxErr, api.Counter{Rec: 255, State: api.Passive}},
		{api.Counter{Rec: 247, State: api.Passive}, api.RxLong, api.Counter{Rec: 255, State: api.Passive}},
		{api.Counter{Rec: 248, State: api.Passive}, api.RxLong, api.Counter{Rec: 255, State: api.Passive}},
		{api.Counter{Rec: 255, State: api.Passive}, api.RxLong, api.Counter{Rec: 255, State: api.Passive}},
		{api.Counter{Tec: 247, State: api.Passive}, api.TxErr, api.Counter{Tec: 255, State: api.Passive}},
		{api.Counter{Tec: 248, State: api.Passive}, api.TxErr, api.Counter{Tec: 256, State: api.Off}},
		{api.Counter{Tec: 255, Rec: 255, State: api.Passive}, api.TxErr, api.Counter{Tec: 256, State: api.Off}},
		{api.Counter{Tec: 200, Rec: 5, State: api.Passive}, api.Calm, api.Counter{Tec: 200, Rec: 5, State: api.Passive}},
		{api.Counter{Tec: 256, State: api.Off}, api.Calm, api.Counter{Tec: 256, State: api.Off, Rest: 1}},
		{api.Counter{Tec: 256, State: api.Off, Rest: 126}, api.Calm, api.Counter{Tec: 256, State: api.Off, Rest: 127}},
		{api.Counter{Tec: 256, State: api.Off, Rest: 127}, api.Calm, New()},
		{api.Counter{Tec: 256, State: api.Off, Rest: 127}, api.RxOk, api.Counter{Tec: 256, State: api.Off, Rest: 127}},
		{api.Counter{Tec: 256, State: api.Off, Rest: 5}, api.TxErr, api.Counter{Tec: 256, State: api.Off, Rest: 5}},
	}
	for _, test := range tests {
		if got := Step(test.was, test.what); got != test.want {
			t.Errorf("Step(%+v, %d) = %+v", test.was, test.what, got)
		}
	}
}

func TestStepEach(t *testing.T) { // P8.1, P8.2, H2
	// Every valid counter with every occurrence.
	for _, c := range allValid() {
		for _, what := range occurrences {
			got := Step(c, what)
			if got != plainStep(c, what) {
				t.Fatalf("Step(%+v, %d) = %+v", c, what, got)
			}
			if !plainRight(got) {
				t.Fatalf("Step(%+v, %d) = %+v, which is not valid", c, what, got)
			}
		}
	}
}

func TestSteps(t *testing.T) { // P8.1, H3
	tests := []struct {
		was  api.Counter
		l    []int
		want api.Counter
	}{
		{New(), nil, New()},
		{New(), []int{}, New()},
		{api.Counter{Tec: 256, State: api.Off, Rest: 3}, nil, api.Counter{Tec: 256, State: api.Off, Rest: 3}},
		{New(), []int{api.TxErr, api.TxOk}, api.Counter{Tec: 7, State: api.Active}},
		{New(), []int{api.TxOk, api.TxErr}, api.Counter{Tec: 8, State: api.Active}}, // the order counts
		{New(), []int{api.RxErr, api.RxLong, api.RxOk, 99, api.Calm}, api.Counter{Rec: 8, State: api.Active}},
		{New(), slices.Repeat([]int{api.TxErr}, 31), api.Counter{Tec: 248, State: api.Passive}},
		{New(), slices.Repeat([]int{api.TxErr}, 32), api.Counter{Tec: 256, State: api.Off}}, // the chapter's example
		{New(), slices.Repeat([]int{api.TxErr}, 100), api.Counter{Tec: 256, State: api.Off}},
		{New(), slices.Repeat([]int{api.RxLong}, 100), api.Counter{Rec: 255, State: api.Passive}}, // receiving never ends in Off
	}
	for _, test := range tests {
		if got := Steps(test.was, test.l); got != test.want {
			t.Errorf("Steps(%+v, %v) = %+v", test.was, test.l, got)
		}
	}
}

func TestStepsRandom(t *testing.T) { // P8.1, P8.2, H3
	r := rand.New(rand.NewSource(8))
	all := allValid()
	ended := map[int]int{}
	for range 4000 {
		was := all[r.Intn(len(all))]
		if r.Intn(4) == 0 {
			was = all[len(all)-1-r.Intn(128)]
		}
		// A few kinds a list, so that every state is reached and left.
		kinds := make([]int, 1+r.Intn(4))
		for i := range kinds {
			kinds[i] = occurrences[r.Intn(7)]
		}
		l := make([]int, r.Intn(200))
		want := was
		for i := range l {
			l[i] = kinds[r.Intn(len(kinds))]
			want = plainStep(want, l[i])
		}
		got := Steps(was, l)
		if got != want || !Right(got) {
			t.Fatalf("Steps(%+v, %v) = %+v", was, l, got)
		}
		cut := r.Intn(len(l) + 1)
		if parts := Steps(Steps(was, l[:cut]), l[cut:]); parts != got {
			t.Fatalf("Steps(%+v, %v) = %+v, but in two parts %+v", was, l, got, parts)
		}
		ended[got.State]++
	}
	for _, state := range []int{api.Active, api.Passive, api.Off} {
		if ended[state] < 200 {
			t.Errorf("%d of 4000 random lists end in the state %d: the test tells little", ended[state], state)
		}
	}
}

func TestOffEnds(t *testing.T) { // P8.3
	for rest := range 128 {
		c := api.Counter{Tec: 256, State: api.Off, Rest: rest}
		for range 127 - rest {
			// What else occurs meanwhile neither helps nor hinders.
			c = Step(Steps(c, []int{api.TxOk, api.RxOk, api.TxErr, api.RxErr, api.RxLong, 0, 7}), api.Calm)
			if c.State != api.Off {
				t.Fatalf("Off ended too soon, with %+v from %d on", c, rest)
			}
		}
		if c = Step(c, api.Calm); c != New() {
			t.Errorf("from %d on, after 128 occurrences of Calm in all: %+v", rest, c)
		}
	}
	many := slices.Repeat([]int{api.TxErr}, 32)
	c := Steps(New(), append(many, slices.Repeat([]int{api.Calm}, 127)...))
	if c.State != api.Off {
		t.Errorf("after 127 occurrences of Calm: %+v", c)
	}
	if c = Step(c, api.Calm); c != New() {
		t.Errorf("after 128 occurrences of Calm: %+v", c)
	}
}

func TestCalmBeforeOffDoesNotCount(t *testing.T) { // P8.3
	c := Steps(New(), slices.Repeat([]int{api.Calm}, 500))
	c = Steps(c, slices.Repeat([]int{api.TxErr, api.Calm}, 32))
	if c != (api.Counter{Tec: 256, State: api.Off, Rest: 1}) {
		t.Errorf("Off after quiet times: %+v", c)
	}
}

func TestActiveAgain(t *testing.T) { // P8.3
	r := rand.New(rand.NewSource(81))
	for _, c := range allValid() {
		if c.State == api.Off {
			continue
		}
		sent := max(c.Tec-127, 0)
		// The one that is received may come at any time among them.
		l := slices.Insert(slices.Repeat([]int{api.TxOk}, sent), r.Intn(sent+1), api.RxOk)
		if got := Steps(c, l); got.State != api.Active || !Right(got) {
			t.Fatalf("Steps(%+v, %v) = %+v", c, l, got)
		}
		if sent > 0 {
			if got := Steps(c, slices.Repeat([]int{api.TxOk, api.RxOk}, sent-1)); got.State != api.Passive {
				t.Fatalf("%+v is Active after %d frames transmitted", c, sent-1)
			}
		}
		if got := Steps(c, slices.Repeat([]int{api.TxOk}, 300)); (got.State == api.Active) != (c.Rec <= 127) {
			t.Fatalf("%+v becomes %+v without a frame received", c, got)
		}
	}
}

func TestArgumentsStay(t *testing.T) { // P3
	l := []int{api.TxErr, api.Calm, api.RxLong, 77, api.RxOk}
	kept := slices.Clone(l)
	first := Steps(New(), l)
	if !slices.Equal(l, kept) {
		t.Errorf("the list was changed to %v", l)
	}
	if Steps(New(), l) != first {
		t.Error("a second call answers otherwise")
	}
}

func TestMany(t *testing.T) { // P1
	l := slices.Repeat([]int{api.TxErr, api.RxErr}, 1<<19)
	if got := Steps(New(), l); got != (api.Counter{Tec: 256, State: api.Off}) {
		t.Errorf("after many errors: %+v", got)
	}
}

func TestWrongArguments(t *testing.T) { // nothing is specified for these, but that no call panics or goes on for ever
	numbers := []int{math.MinInt, -1, 0, 1, 128, 256, math.MaxInt}
	for _, tec := range numbers {
		for _, rec := range numbers {
			for _, state := range []int{math.MinInt, -1, 0, 1, 2, 3, 4} {
				for _, rest := range numbers {
					Steps(api.Counter{Tec: tec, Rec: rec, State: state, Rest: rest}, occurrences)
				}
			}
		}
	}
}
