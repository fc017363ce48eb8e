package node

import (
	"bytes"
	"math"
	"math/rand"
	"slices"
	"sort"
	"testing"

	"phaeton/api"
	"phaeton/count"
	"phaeton/frame"
)

// The chapter, written out on plain numbers and loops.

// plainRank is an arbitration field as a number of 32 bits, filled up with 0s: no field is a proper prefix of another one.
func plainRank(f api.Frame) int {
	remote := 0
	if f.Remote {
		remote = 1
	}
	if f.Ext {
		return f.ID>>18<<21 | 1<<20 | 1<<19 | f.ID%(1<<18)<<1 | remote
	}
	return f.ID<<21 | remote<<20
}

func plainNext(n api.Node) int {
	next := -1
	if n.Count.State == 3 {
		return next
	}
	for i, f := range n.Queue {
		if next < 0 || plainRank(f) < plainRank(n.Queue[next]) {
			next = i
		}
	}
	return next
}

func plainTakes(l []api.Filter, f api.Frame) bool {
	for _, x := range l {
		if x.Ext == f.Ext && f.ID&x.Mask == x.Match {
			return true
		}
	}
	return len(l) == 0
}

func plainSend(n api.Node, f api.Frame) (api.Node, api.Errno) {
	if !frame.Right(f) {
		return n, 90
	}
	if n.Count.State == 3 {
		return n, 3
	}
	if len(n.Queue) == 16 {
		return n, 2
	}
	n.Queue = append(copyFrames(n.Queue), f)
	return n, 0
}

func plainSent(n api.Node, ok bool) api.Node {
	next := plainNext(n)
	if next < 0 {
		return n
	}
	if !ok {
		n.Count = count.Step(n.Count, 3)
		return n
	}
	var rest []api.Frame
	for i, f := range n.Queue {
		if i != next {
			rest = append(rest, f)
		}
	}
	n.Queue = rest
	n.Count = count.Step(n.Count, 1)
	return n
}

func plainHeard(n api.Node, f api.Frame, ok, long bool) api.Node {
	what := map[[2]bool]int{{true, true}: 2, {true, false}: 2, {false, true}: 5, {false, false}: 4}[[2]bool{ok, long}]
	if n.Count.State == 3 {
		return n
	}
	if ok && plainTakes(n.Filters, f) && len(n.Got) <= 63 {
		n.Got = append(copyFrames(n.Got), f)
	}
	n.Count = count.Step(n.Count, what)
	return n
}

func copyFrames(l []api.Frame) []api.Frame {
	var all []api.Frame
	for _, f := range l {
		f.Data = slices.Clone(f.Data)
		all = append(all, f)
	}
	return all
}

func copyNode(n api.Node) api.Node {
	n.Queue, n.Got, n.Filters = copyFrames(n.Queue), copyFrames(n.Got), slices.Clone(n.Filters)
	return n
}

func same(a, b api.Node) bool {
	return slices.EqualFunc(a.Queue, b.Queue, frame.Same) && slices.EqualFunc(a.Got, b.Got, frame.Same) &&
		slices.Equal(a.Filters, b.Filters) && a.Count == b.Count
}

// want fails unless got and want are equal, and valid.
func want(t *testing.T, what string, got, want api.Node) {
	t.Helper()
	if !same(got, want) {
		t.Fatalf("%s: %+v; want %+v", what, got, want)
	}
	if !Right(got) {
		t.Fatalf("%s: %+v is not valid", what, got)
	}
}

var (
	active   = api.Counter{State: api.Active}
	passive  = api.Counter{Tec: 130, Rec: 140, State: api.Passive}
	off      = api.Counter{Tec: 256, State: api.Off, Rest: 5}
	counters = []api.Counter{
		active, passive, off,
		{Tec: 120, Rec: 120, State: api.Active}, {Tec: 127, Rec: 127, State: api.Active},
		{Tec: 128, State: api.Passive}, {Rec: 128, State: api.Passive}, {Tec: 248, Rec: 255, State: api.Passive},
		{Tec: 256, State: api.Off}, {Tec: 256, State: api.Off, Rest: 127},
	}
)

// numbered returns frames with identifiers from 0 on, none of which equals another.
func numbered(many int) []api.Frame {
	var l []api.Frame
	for i := range many {
		l = append(l, api.Frame{ID: i, Len: 1, Data: []byte{byte(i)}})
	}
	return l
}

// edgeFrames are of both kinds, remote and not, with identifiers at the borders and around each other's.
func edgeFrames() []api.Frame {
	var all []api.Frame
	for _, upper := range []int{0, 1, 2, 0x3FF, 0x400, 0x555, 0x7FE, 0x7FF} {
		for _, remote := range []bool{false, true} {
			all = append(all, api.Frame{ID: upper, Remote: remote})
			for _, lower := range []int{0, 1, 0x20000, 0x3FFFF} {
				all = append(all, api.Frame{Ext: true, ID: upper<<18 | lower, Remote: remote})
			}
		}
	}
	return all
}

// randomFrame returns a valid frame with one of few identifiers, so that many frames have one arbitration field.
func randomFrame(r *rand.Rand) api.Frame {
	f := api.Frame{Ext: r.Intn(3) == 0, ID: r.Intn(5), Remote: r.Intn(4) == 0, Len: r.Intn(9)}
	if f.Ext {
		f.ID = f.ID<<18 | r.Intn(3)
	}
	if r.Intn(8) == 0 {
		f.ID |= 0x7F8
	}
	if !f.Remote {
		f.Data = make([]byte, f.Len)
		r.Read(f.Data)
	}
	return f
}

func randomFilters(r *rand.Rand) []api.Filter {
	l := []api.Filter{}
	for range r.Intn(9) * r.Intn(2) {
		f := api.Filter{Ext: r.Intn(2) == 0, Mask: r.Intn(8)}
		if f.Ext {
			f.Mask = f.Mask<<18 | r.Intn(4)
		}
		f.Match = f.Mask & r.Int()
		l = append(l, f)
	}
	return l
}

// randomNode returns a valid node whose lists are of any length, often empty or full.
func randomNode(r *rand.Rand) api.Node {
	many := func(most int) int { return []int{0, 1, r.Intn(most + 1), most - 1, most}[r.Intn(5)] }
	n := api.Node{Filters: randomFilters(r), Count: counters[r.Intn(len(counters))]}
	for range many(16) {
		n.Queue = append(n.Queue, randomFrame(r))
	}
	for range many(64) {
		n.Got = append(n.Got, randomFrame(r))
	}
	return n
}

// wrongFrames are not valid, each for one reason.
func wrongFrames() []api.Frame {
	return []api.Frame{
		{ID: 1 << 11}, {ID: -1}, {ID: math.MaxInt}, {ID: math.MinInt},
		{Ext: true, ID: 1 << 29}, {Ext: true, ID: -1},
		{Len: 1}, {Data: []byte{1}}, {Len: 9, Data: make([]byte, 9)}, {Len: -1},
		{Remote: true, Len: 9}, {Remote: true, Len: 1, Data: []byte{1}},
	}
}

func TestNew(t *testing.T) { // P9.1, I1
	ext := api.Filter{Ext: true, Mask: 1<<29 - 1, Match: 1<<29 - 1}
	for many := range 9 {
		l := []api.Filter{}
		for i := range many {
			l = append(l, api.Filter{Mask: 0x7FF, Match: i}, ext)
		}
		l = l[:many]
		n, err := New(l)
		if err != api.OK {
			t.Fatalf("New(%+v): %v", l, err)
		}
		want(t, "New", n, api.Node{Filters: l, Count: api.Counter{State: api.Active}})
	}
	n, err := New(nil)
	if err != api.OK {
		t.Fatalf("New(nil): %v", err)
	}
	want(t, "New(nil)", n, api.Node{Count: active})
}

func TestNewErrors(t *testing.T) { // P9.1, I1
	var all [][]api.Filter
	for _, many := range []int{9, 10, 16, 100} {
		all = append(all, make([]api.Filter, many))
	}
	wrong := []api.Filter{{Match: 1}, {Mask: -1}, {Mask: 1 << 11}, {Mask: 6, Match: 7}, {Ext: true, Mask: 1 << 29}, {Mask: math.MaxInt}}
	for _, f := range wrong {
		for many := 1; many <= 9; many++ {
			for at := range many {
				l := make([]api.Filter, many)
				l[at] = f
				all = append(all, l)
			}
		}
	}
	for _, l := range all {
		n, err := New(l)
		if err != api.ErrArg || !same(n, api.Node{}) {
			t.Errorf("New(%+v) = %+v, %v", l, n, err)
		}
	}
}

func TestRight(t *testing.T) { // P9.1, I1
	full := api.Node{Queue: numbered(16), Filters: make([]api.Filter, 8), Count: passive, Got: numbered(64)}
	tests := []struct {
		name   string
		change func(n *api.Node)
		want   bool
	}{
		{"full", func(n *api.Node) {}, true},
		{"17 queued", func(n *api.Node) { n.Queue = numbered(17) }, false},
		{"65 received", func(n *api.Node) { n.Got = numbered(65) }, false},
		{"9 filters", func(n *api.Node) { n.Filters = make([]api.Filter, 9) }, false},
		{"no lists", func(n *api.Node) { n.Queue, n.Filters, n.Got = nil, nil, nil }, true},
		{"empty lists", func(n *api.Node) { n.Queue, n.Filters, n.Got = []api.Frame{}, []api.Filter{}, []api.Frame{} }, true},
		{"no counter", func(n *api.Node) { n.Count = api.Counter{} }, false},
		{"Active above 127", func(n *api.Node) { n.Count = api.Counter{Tec: 128, State: api.Active} }, false},
		{"Passive below 128", func(n *api.Node) { n.Count = api.Counter{State: api.Passive} }, false},
		{"Off after 128", func(n *api.Node) { n.Count = api.Counter{Tec: 256, State: api.Off, Rest: 128} }, false},
		{"no such state", func(n *api.Node) { n.Count = api.Counter{State: 4} }, false},
	}
	for _, test := range tests {
		n := copyNode(full)
		test.change(&n)
		if got := Right(n); got != test.want {
			t.Errorf("%s: Right = %t", test.name, got)
		}
	}
	for _, c := range counters {
		if n := (api.Node{Queue: numbered(3), Count: c}); !Right(n) {
			t.Errorf("Right(%+v) = false", n)
		}
	}
	if Right(api.Node{}) {
		t.Error("the zero node is valid")
	}
}

func TestRightInEachPlace(t *testing.T) { // P9.1, I1
	full := api.Node{Queue: numbered(16), Filters: make([]api.Filter, 8), Count: active, Got: numbered(64)}
	check := func(n api.Node) {
		t.Helper()
		if Right(n) {
			t.Errorf("Right(%+v) = true", n)
		}
	}
	for _, f := range wrongFrames() {
		for i := range full.Queue {
			n := copyNode(full)
			n.Queue[i] = f
			check(n)
		}
		for i := range full.Got {
			n := copyNode(full)
			n.Got[i] = f
			check(n)
		}
	}
	for _, f := range []api.Filter{{Match: 1}, {Mask: 1 << 11}, {Ext: true, Mask: 1 << 29}, {Mask: -1, Match: -1}} {
		for i := range full.Filters {
			n := copyNode(full)
			n.Filters[i] = f
			check(n)
		}
	}
}

func TestSend(t *testing.T) { // P9.1, I2
	for _, c := range counters {
		n := api.Node{Filters: []api.Filter{{Mask: 0x7FF, Match: 1}}, Count: c, Got: numbered(2)}
		for _, f := range append(edgeFrames()[:14], numbered(6)...) {
			wantNode, wantErr := plainSend(n, f)
			got, err := Send(n, f)
			if err != wantErr {
				t.Fatalf("Send(%+v, %+v): %v", n, f, err)
			}
			want(t, "Send", got, wantNode)
			n = got
		}
		if many := map[bool]int{true: 0, false: 16}[c.State == api.Off]; len(n.Queue) != many {
			t.Errorf("with %+v %d frames could be queued", c, len(n.Queue))
		}
	}
	for _, f := range edgeFrames() {
		n, err := Send(api.Node{Queue: numbered(15), Count: active}, f)
		if err != api.OK || len(n.Queue) != 16 || !frame.Same(n.Queue[15], f) {
			t.Fatalf("Send of %+v: %+v, %v", f, n, err)
		}
	}
}

func TestSendErrors(t *testing.T) { // P9.1, I2
	right := []api.Frame{{ID: 3}}
	tests := []struct {
		name   string
		frames []api.Frame
		queued int
		c      api.Counter
		want   api.Errno
	}{
		{"frame", wrongFrames(), 0, active, api.ErrFrame},
		{"frame, and the queue is full", wrongFrames(), 16, passive, api.ErrFrame},
		{"frame, and it is Off", wrongFrames(), 3, off, api.ErrFrame},
		{"frame, and both", wrongFrames(), 16, off, api.ErrFrame},
		{"Off", right, 0, off, api.ErrOff},
		{"Off, and the queue is full", right, 16, off, api.ErrOff},
		{"full", right, 16, active, api.ErrFull},
		{"full and Passive", right, 16, passive, api.ErrFull},
		{"none", right, 15, passive, api.OK},
	}
	for _, test := range tests {
		for _, f := range test.frames {
			n := api.Node{Queue: numbered(test.queued), Filters: make([]api.Filter, 2), Count: test.c, Got: numbered(3)}
			got, err := Send(n, f)
			if err != test.want {
				t.Errorf("%s: Send of %+v: %v", test.name, f, err)
			}
			if err != api.OK {
				want(t, test.name, got, n)
			}
		}
	}
}

func TestNext(t *testing.T) { // P9.1, I2
	a, b := []byte{1}, []byte{2}
	tests := []struct {
		queue []api.Frame
		want  int
	}{
		{nil, -1},
		{[]api.Frame{}, -1},
		{[]api.Frame{{ID: 5}}, 0},
		{[]api.Frame{{ID: 5}, {ID: 3}}, 1}, // the chapter's example
		{[]api.Frame{{ID: 3}, {ID: 5}}, 0},
		{[]api.Frame{{ID: 5, Len: 1, Data: a}, {ID: 5, Len: 1, Data: b}}, 0},
		{[]api.Frame{{ID: 5, Len: 1, Data: b}, {ID: 5, Len: 1, Data: a}}, 0},
		{[]api.Frame{{ID: 5, Len: 1, Data: b}, {ID: 5}}, 0}, // neither Len nor Data counts
		{[]api.Frame{{ID: 7}, {ID: 5, Len: 1, Data: b}, {ID: 5, Len: 1, Data: a}, {ID: 6}}, 1},
		{[]api.Frame{{ID: 5, Remote: true}, {ID: 5}}, 1},
		{[]api.Frame{{ID: 4, Remote: true}, {ID: 5}}, 0},
		{[]api.Frame{{Ext: true, ID: 5 << 18}, {ID: 5, Remote: true}}, 1},
		{[]api.Frame{{Ext: true, ID: 5<<18 - 1}, {ID: 5}}, 0},
		{[]api.Frame{{Ext: true, ID: 9}, {ID: 1}}, 0}, // a greater identifier is not always a greater field
		{[]api.Frame{{Ext: true, ID: 9, Remote: true}, {Ext: true, ID: 9}, {Ext: true, ID: 10}}, 1},
		{[]api.Frame{{ID: 0x7FF}, {Ext: true, ID: 1<<29 - 1}, {ID: 0x7FF, Remote: true}}, 0},
	}
	for _, test := range tests {
		for _, c := range counters {
			f, ok := Next(api.Node{Queue: test.queue, Count: c})
			if none := test.want < 0 || c.State == api.Off; none {
				if ok || !frame.Same(f, api.Frame{}) {
					t.Errorf("Next of %+v with %+v: %+v, %t", test.queue, c, f, ok)
				}
			} else if !ok || !frame.Same(f, test.queue[test.want]) {
				t.Errorf("Next of %+v with %+v: %+v, %t", test.queue, c, f, ok)
			}
		}
	}
}

func TestNextOfPairs(t *testing.T) { // P9.1, I2
	for _, a := range edgeFrames() {
		for _, b := range edgeFrames() {
			first := a
			if plainRank(b) < plainRank(a) {
				first = b
			}
			f, ok := Next(api.Node{Queue: []api.Frame{a, b}, Count: active})
			if !ok || !frame.Same(f, first) {
				t.Fatalf("Next of %+v and %+v: %+v, %t", a, b, f, ok)
			}
		}
	}
}

func TestSent(t *testing.T) { // P9.1, I3
	queue := []api.Frame{{ID: 7}, {ID: 5, Len: 1, Data: []byte{1}}, {ID: 6}, {ID: 5, Len: 1, Data: []byte{2}}, {ID: 5}}
	n := api.Node{Queue: queue, Filters: make([]api.Filter, 1), Count: api.Counter{Tec: 120, Rec: 9, State: api.Active}, Got: numbered(2)}

	after := n
	after.Count = api.Counter{Tec: 128, Rec: 9, State: api.Passive}
	want(t, "Sent with false", Sent(n, false), after)

	after = n
	after.Queue = []api.Frame{queue[0], queue[2], queue[3], queue[4]}
	after.Count = api.Counter{Tec: 119, Rec: 9, State: api.Active}
	want(t, "Sent with true", Sent(n, true), after)

	after.Queue = []api.Frame{queue[0], queue[2], queue[4]}
	after.Count.Tec = 118
	want(t, "Sent with true twice", Sent(Sent(n, true), true), after)

	n.Count = api.Counter{Tec: 248, Rec: 9, State: api.Passive}
	after = n
	after.Count = api.Counter{Tec: 256, State: api.Off}
	want(t, "Sent with false to Off", Sent(n, false), after)
}

func TestSentOfNothing(t *testing.T) { // P9.1, I3
	for _, c := range counters {
		for _, many := range []int{0, 1, 16} {
			n := api.Node{Queue: numbered(many), Count: c, Got: numbered(1)}
			for _, ok := range []bool{true, false} {
				got := Sent(n, ok)
				want(t, "Sent", got, plainSent(n, ok))
				if none := many == 0 || c.State == api.Off; none != same(got, n) {
					t.Errorf("Sent of %+v with %t: %+v", n, ok, got)
				}
			}
		}
	}
}

func TestHeard(t *testing.T) { // P9.1, I4
	filters := [][]api.Filter{nil, {{Mask: 0x7F0, Match: 0x120}}, {{Mask: 0x7FF}, {Mask: 0x7FF, Match: 0x12F}}, {{Ext: true}}}
	frames := []api.Frame{{ID: 0x12F, Len: 2, Data: []byte{7, 8}}, {ID: 0x130}, {ID: 0, Remote: true, Len: 4}, {Ext: true, ID: 0x12F}}
	took := 0
	for _, c := range counters {
		for _, l := range filters {
			for _, f := range frames {
				for _, many := range []int{0, 62, 63, 64} {
					for kind := range 4 {
						ok, long := kind&1 == 0, kind&2 == 0
						n := api.Node{Queue: numbered(3), Filters: l, Count: c, Got: numbered(many)}
						got := Heard(n, f, ok, long)
						want(t, "Heard", got, plainHeard(n, f, ok, long))
						took += len(got.Got) - many
					}
				}
			}
		}
	}
	if took != 7*3*2*(4+1+2+1) { // states that are not Off, lengths with room, either long, frames that a row's filters take
		t.Errorf("%d frames were received", took)
	}
}

func TestHeardCounts(t *testing.T) { // P9.1, I4
	n := api.Node{Count: api.Counter{Tec: 3, Rec: 100, State: api.Active}}
	tests := []struct {
		ok, long  bool
		rec, many int
	}{
		{true, false, 99, 1},
		{true, true, 99, 1}, // long only matters where it is not ok
		{false, false, 101, 0},
		{false, true, 108, 0},
	}
	for _, test := range tests {
		got := Heard(n, api.Frame{ID: 9}, test.ok, test.long)
		if got.Count != (api.Counter{Tec: 3, Rec: test.rec, State: api.Active}) || len(got.Got) != test.many {
			t.Errorf("Heard with %t and %t: %+v", test.ok, test.long, got)
		}
	}
	// A frame that the filters leave out, and one without room, were received well all the same.
	few := api.Node{Filters: []api.Filter{{Mask: 1, Match: 1}}, Count: api.Counter{Rec: 200, State: api.Passive}}
	full := api.Node{Got: numbered(64), Count: api.Counter{Rec: 200, State: api.Passive}}
	for _, n := range []api.Node{few, full} {
		got := Heard(n, api.Frame{ID: 8}, true, false)
		if got.Count != (api.Counter{Rec: 127, State: api.Active}) || len(got.Got) != len(n.Got) {
			t.Errorf("Heard of %+v: %+v", n, got)
		}
	}
}

func TestQuiet(t *testing.T) { // P9.1, I4
	for _, c := range counters {
		n := api.Node{Queue: numbered(16), Filters: make([]api.Filter, 8), Count: c, Got: numbered(64)}
		after := n
		after.Count = count.Step(c, 6)
		want(t, "Quiet", Quiet(n), after)
		if got := Quiet(n).Count; (got == c) != (c.State != api.Off) {
			t.Errorf("%+v is %+v after a quiet slot", c, got)
		}
	}
	n := api.Node{Queue: numbered(4), Count: api.Counter{Tec: 256, State: api.Off}}
	for i := range 128 {
		if _, ok := Next(n); ok {
			t.Fatalf("it transmits after %d quiet slots", i)
		}
		n = Quiet(n)
	}
	want(t, "128 quiet slots", n, api.Node{Queue: numbered(4), Count: active})
}

func TestTake(t *testing.T) { // P9.1, I5
	for _, c := range counters { // a node that is Off has still what it received
		for many := range 65 {
			all := numbered(many)
			n := api.Node{Queue: numbered(5), Filters: make([]api.Filter, 2), Count: c, Got: all}
			got, f, ok := Take(n)
			if many == 0 {
				if ok || !frame.Same(f, api.Frame{}) {
					t.Errorf("Take of nothing: %+v, %t", f, ok)
				}
				want(t, "Take of nothing", got, n)
				continue
			}
			if !ok || !frame.Same(f, all[0]) {
				t.Errorf("Take of %+v: %+v, %t", all, f, ok)
			}
			n.Got = all[1:]
			want(t, "Take", got, n)
		}
	}
}

// act applies one of the functions, chosen by r, to n, and returns what the chapter makes of it too.
func act(r *rand.Rand, n api.Node) (got, plain api.Node) {
	f, ok := randomFrame(r), r.Intn(3) > 0
	switch r.Intn(6) {
	case 0, 1:
		if r.Intn(10) == 0 {
			f = wrongFrames()[r.Intn(len(wrongFrames()))]
		}
		got, _ = Send(n, f)
		plain, _ = plainSend(n, f)
		return got, plain
	case 2:
		return Sent(n, ok), plainSent(n, ok)
	case 3:
		long := r.Intn(2) == 0
		return Heard(n, f, ok, long), plainHeard(n, f, ok, long)
	case 4:
		plain = n
		plain.Count = count.Step(n.Count, 6)
		return Quiet(n), plain
	}
	got, _, _ = Take(n)
	plain = n
	plain.Got = n.Got[min(1, len(n.Got)):]
	return got, plain
}

func TestEachFunction(t *testing.T) { // P9.1, P9.2: from any valid node
	r := rand.New(rand.NewSource(9))
	for range 20000 {
		n := randomNode(r)
		if !Right(n) {
			t.Fatalf("Right(%+v) = false", n)
		}
		before := copyNode(n)
		got, plain := act(r, n)
		want(t, "random node", got, plain)
		if !same(n, before) {
			t.Fatalf("the argument %+v was changed to %+v", before, n)
		}
		f, ok := Next(n)
		if at := plainNext(n); ok != (at >= 0) || ok && !frame.Same(f, n.Queue[at]) {
			t.Fatalf("Next(%+v) = %+v, %t", n, f, ok)
		}
	}
}

func TestLives(t *testing.T) { // P9.1, P9.2: from a new node on
	r := rand.New(rand.NewSource(91))
	states := map[int]int{}
	for range 60 {
		n, err := New(randomFilters(r))
		if err != api.OK || !Right(n) {
			t.Fatalf("New: %+v, %v", n, err)
		}
		for range 1000 {
			got, plain := act(r, n)
			want(t, "random life", got, plain)
			n = got
			states[n.Count.State]++
		}
	}
	for state := api.Active; state <= api.Off; state++ {
		if states[state] < 1000 {
			t.Errorf("the nodes were in the state %d only %d times: the test tells little", state, states[state])
		}
	}
}

// drain transmits all that n has queued, each frame after some failures, and returns the frames in their order.
func drain(t *testing.T, n api.Node, failures int) []api.Frame {
	t.Helper()
	var all []api.Frame
	for len(n.Queue) > 0 {
		f, ok := Next(n)
		if !ok {
			t.Fatalf("nothing is next in %+v", n)
		}
		for range failures {
			n = Sent(n, false)
			if again, _ := Next(n); !frame.Same(again, f) {
				t.Fatalf("after a failure %+v comes next, not %+v", again, f)
			}
		}
		all = append(all, f)
		left := len(n.Queue) - 1
		if n = Sent(n, true); len(n.Queue) != left {
			t.Fatalf("%d frames are queued after a transmission, not %d", len(n.Queue), left)
		}
	}
	if _, ok := Next(n); ok {
		t.Fatal("a frame is next, but none is queued")
	}
	return all
}

func TestSentInOrder(t *testing.T) { // P9.3
	r := rand.New(rand.NewSource(93))
	for range 3000 {
		var l []api.Frame
		n, _ := New(nil)
		for i := range r.Intn(17) {
			f := randomFrame(r)
			if !f.Remote {
				f.Len, f.Data = 1, []byte{byte(i)} // tells when it was queued
			}
			l = append(l, f)
			n, _ = Send(n, f)
		}
		// A stable sort: what has equal arbitration fields stays as it was queued.
		sort.SliceStable(l, func(i, j int) bool { return plainRank(l[i]) < plainRank(l[j]) })
		for failures := range 2 {
			if got := drain(t, n, failures); !slices.EqualFunc(got, l, frame.Same) {
				t.Fatalf("%+v were transmitted; want %+v", got, l)
			}
		}
	}
}

func TestEqualFieldsInOrder(t *testing.T) { // P9.3
	n, _ := New(nil)
	var err api.Errno
	queued, sent := map[int]byte{}, map[int]byte{}
	r := rand.New(rand.NewSource(94))
	for range 5000 {
		id := r.Intn(3)
		f := api.Frame{ID: id, Len: 1, Data: []byte{queued[id]}}
		if n, err = Send(n, f); err == api.OK {
			queued[id]++
		}
		for range r.Intn(3) {
			if f, ok := Next(n); ok {
				if f.Data[0] != sent[f.ID] {
					t.Fatalf("number %d of the identifier %d is transmitted; want number %d", f.Data[0], f.ID, sent[f.ID])
				}
				sent[f.ID]++
				n = Sent(n, true)
			}
		}
	}
	for _, f := range drain(t, n, 0) {
		sent[f.ID]++
	}
	for id := range 3 {
		if sent[id] != queued[id] {
			t.Errorf("of the identifier %d were queued %d and transmitted %d (modulo 256)", id, queued[id], sent[id])
		}
	}
}

func TestTakenInOrder(t *testing.T) { // P9.3
	n, _ := New([]api.Filter{{Mask: 1, Match: 1}})
	var heard, taken []api.Frame
	take := func() bool {
		m, f, ok := Take(n)
		if n = m; ok {
			taken = append(taken, f)
		}
		return ok
	}
	r := rand.New(rand.NewSource(95))
	for i := range 3000 {
		f := api.Frame{ID: r.Intn(0x800), Len: 2, Data: []byte{byte(i), byte(i >> 8)}}
		ok := r.Intn(4) > 0
		if ok && f.ID%2 == 1 && len(n.Got) < 64 {
			heard = append(heard, f)
		}
		n = Heard(n, f, ok, false)
		for range r.Intn(3) * r.Intn(2) {
			take()
		}
		if i%300 == 299 {
			for range 100 {
				n = Heard(n, api.Frame{ID: 1, Remote: true}, true, false)
			}
			for len(n.Got) > len(heard)-len(taken) { // what found room was heard
				heard = append(heard, api.Frame{ID: 1, Remote: true})
			}
			if len(n.Got) != 64 {
				t.Fatalf("%d frames were received, and none more fits", len(n.Got))
			}
			for take() {
			}
		}
	}
	for take() {
	}
	if !slices.EqualFunc(taken, heard, frame.Same) {
		t.Errorf("%d frames were taken and %d received, or in another order", len(taken), len(heard))
	}
}

// roomy returns l with free places behind it that hold frames, as the front of a longer list.
func roomy(l []api.Frame) []api.Frame {
	return append(slices.Clone(l), numbered(4)...)[:len(l)]
}

func TestArgumentsStay(t *testing.T) { // P3
	n := api.Node{Queue: roomy(numbered(5)), Count: active, Got: roomy(numbered(5)), Filters: []api.Filter{{}}}
	before := copyNode(n)
	behindQueue, behindGot := copyFrames(n.Queue[:9]), copyFrames(n.Got[:9])
	a, b := api.Frame{ID: 100}, api.Frame{ID: 200}

	sentA, _ := Send(n, a)
	sentB, _ := Send(n, b)
	heardA, heardB := Heard(n, a, true, false), Heard(n, b, true, false)
	doneA := Sent(n, true)
	tookA, _, _ := Take(n)
	Sent(sentA, true)
	Take(heardA)
	Heard(tookA, a, true, false)
	Send(doneA, b)

	if !frame.Same(sentA.Queue[5], a) || !frame.Same(sentB.Queue[5], b) {
		t.Errorf("queued are %+v and %+v", sentA.Queue[5], sentB.Queue[5])
	}
	if !frame.Same(heardA.Got[5], a) || !frame.Same(heardB.Got[5], b) {
		t.Errorf("received are %+v and %+v", heardA.Got[5], heardB.Got[5])
	}
	if !slices.EqualFunc(doneA.Queue, numbered(5)[1:], frame.Same) || !slices.EqualFunc(tookA.Got, numbered(5)[1:], frame.Same) {
		t.Errorf("left are %+v and %+v", doneA.Queue, tookA.Got)
	}
	if !same(n, before) || !slices.EqualFunc(n.Queue[:9], behindQueue, frame.Same) || !slices.EqualFunc(n.Got[:9], behindGot, frame.Same) {
		t.Errorf("the argument was changed to %+v", n)
	}
}

func TestWhatIsHandedInMayBeUsedAgain(t *testing.T) { // LANGUAGE.md's rule 7
	l := []api.Filter{{Mask: 1, Match: 1}}
	n, _ := New(l)
	l[0] = api.Filter{Ext: true}
	if !slices.Equal(n.Filters, []api.Filter{{Mask: 1, Match: 1}}) {
		t.Errorf("the filters are %+v", n.Filters)
	}
	data := []byte{1, 2}
	n, _ = Send(n, api.Frame{ID: 1, Len: 2, Data: data})
	n = Heard(n, api.Frame{ID: 1, Len: 2, Data: data}, true, false)
	data[0] = 9
	for _, f := range []api.Frame{n.Queue[0], n.Got[0]} {
		if !bytes.Equal(f.Data, []byte{1, 2}) {
			t.Errorf("the data is %v", f.Data)
		}
	}
}

func TestWrongNodes(t *testing.T) { // nothing is specified for these, but that no call panics or goes on for ever
	frames := append(wrongFrames(), numbered(20)...)
	filters := slices.Repeat([]api.Filter{{Mask: -1, Match: math.MinInt}}, 20)
	for _, state := range []int{math.MinInt, -1, 0, api.Active, api.Passive, api.Off, 4, math.MaxInt} {
		for _, tec := range []int{math.MinInt, -1, 0, 128, 256, math.MaxInt} {
			n := api.Node{Queue: frames, Filters: filters, Got: slices.Repeat(frames, 5), Count: api.Counter{Tec: tec, Rec: tec, State: state, Rest: tec}}
			if Right(n) {
				t.Errorf("%+v is valid", n)
			}
			for _, f := range frames {
				Send(n, f)
				Heard(n, f, true, true)
				Heard(n, f, false, true)
			}
			Next(n)
			Sent(n, true)
			Sent(n, false)
			Quiet(n)
			Take(n)
		}
	}
}
