package bus

import (
	"math"
	"math/rand"
	"slices"
	"sort"
	"testing"

	"phaeton/api"
	"phaeton/node"
	"phaeton/wire"
)

// The chapter, written out on numbers and sets.

// plainRank is an arbitration field as a number of 32 bits, filled up with 0s: no field is a proper prefix of another one.
func plainRank(f api.Frame) int {
	remote := 0
	if f.Remote {
		remote = 1
	}
	if f.Ext {
		return f.ID>>18<<21 | 1<<20 | 1<<19 | f.ID%(1<<18)<<1 | remote
	}
	return f.ID<<21 | remote<<20
}

func plainSame(a, b api.Frame) bool {
	return a.Ext == b.Ext && a.ID == b.ID && a.Remote == b.Remote && a.Len == b.Len && string(a.Data) == string(b.Data)
}

// plain is what the chapter says of a slot before its effects.
type plain struct {
	next                map[int]api.Frame
	winner              int
	transmits, sees     map[int]bool
	unlike              bool
	disturbed, unheeded bool
}

func look(l []api.Node, who []int) plain {
	p := plain{next: map[int]api.Frame{}, winner: -1, transmits: map[int]bool{}, sees: map[int]bool{}, unheeded: true}
	for _, i := range who {
		p.sees[i] = true
	}
	for i, n := range l {
		if f, ok := node.Next(n); ok {
			p.next[i] = f
			if p.winner < 0 || plainRank(f) < plainRank(p.next[p.winner]) {
				p.winner = i
			}
		}
	}
	for i, n := range l {
		f, sender := p.next[i]
		if sender && plainRank(f) == plainRank(p.next[p.winner]) {
			p.transmits[i] = true
			p.unlike = p.unlike || !plainSame(f, p.next[p.winner])
			p.disturbed = p.disturbed || p.sees[i] || p.unlike
			continue
		}
		p.unheeded = p.unheeded && n.Count.State == 3
		p.disturbed = p.disturbed || p.sees[i] && n.Count.State == 1
	}
	return p
}

func plainSlot(l []api.Node, who []int) ([]api.Node, api.Told) {
	p := look(l, who)
	after := []api.Node{}
	if p.winner < 0 {
		for _, n := range l {
			after = append(after, node.Quiet(n))
		}
		return after, api.Told{Winner: -1, Bits: 11}
	}
	f := p.next[p.winner]
	told := api.Told{Winner: p.winner, Frame: f, Ok: !p.disturbed && !p.unheeded, Bits: wire.Length(f) + 3}
	if !told.Ok {
		told.Bits += 20
	}
	for i, n := range l {
		switch {
		case p.transmits[i] && told.Ok:
			n = node.Sent(n, true)
		case p.transmits[i] && (n.Count.State != 2 || p.disturbed):
			n = node.Sent(n, false)
		case p.transmits[i]:
		case told.Ok:
			n = node.Heard(n, f, !p.sees[i], false)
		default:
			n = node.Heard(n, f, false, p.sees[i] && n.Count.State == 1)
		}
		after = append(after, n)
	}
	return after, told
}

// What the tests are made of.

var (
	active  = api.Counter{State: api.Active}
	passive = api.Counter{Tec: 130, Rec: 140, State: api.Passive}
	off     = api.Counter{Tec: 256, State: api.Off, Rest: 5}
)

// with returns a node with a counter and queued frames of those identifiers.
func with(c api.Counter, ids ...int) api.Node {
	n := api.Node{Count: c}
	for _, id := range ids {
		n.Queue = append(n.Queue, api.Frame{ID: id, Len: 1, Data: []byte{7}})
	}
	return n
}

// holding returns a new node with those frames queued.
func holding(l ...api.Frame) api.Node { return api.Node{Count: active, Queue: l} }

func copyFrames(l []api.Frame) []api.Frame {
	all := slices.Clone(l)
	for i := range all {
		all[i].Data = slices.Clone(all[i].Data)
	}
	return all
}

func copyNodes(l []api.Node) []api.Node {
	all := slices.Clone(l)
	for i, n := range l {
		all[i].Queue, all[i].Got, all[i].Filters = copyFrames(n.Queue), copyFrames(n.Got), slices.Clone(n.Filters)
	}
	return all
}

func sameFrames(a, b []api.Frame) bool { return slices.EqualFunc(a, b, plainSame) }

func sameNode(a, b api.Node) bool {
	return sameFrames(a.Queue, b.Queue) && sameFrames(a.Got, b.Got) && slices.Equal(a.Filters, b.Filters) && a.Count == b.Count
}

func sameNodes(a, b []api.Node) bool { return slices.EqualFunc(a, b, sameNode) }

func sameTold(a, b api.Told) bool {
	return a.Winner == b.Winner && plainSame(a.Frame, b.Frame) && a.Ok == b.Ok && a.Bits == b.Bits
}

func allRight(l []api.Node) bool {
	return !slices.ContainsFunc(l, func(n api.Node) bool { return !node.Right(n) })
}

// randomFrame returns a valid frame, often with the arbitration field of another one, or the same as another one.
func randomFrame(r *rand.Rand) api.Frame {
	f := api.Frame{Ext: r.Intn(4) == 0, ID: r.Intn(4), Remote: r.Intn(5) == 0}
	if f.Ext {
		f.ID = f.ID<<18 | r.Intn(2)
	}
	if f.Remote {
		f.Len = r.Intn(2) * 8
	} else if r.Intn(3) == 0 {
		f.Len = 1 + r.Intn(8)
		f.Data = slices.Repeat([]byte{byte(r.Intn(2))}, f.Len)
	}
	return f
}

func randomFilters(r *rand.Rand) []api.Filter {
	var l []api.Filter
	for range r.Intn(9) * r.Intn(2) {
		f := api.Filter{Ext: r.Intn(2) == 0, Mask: r.Intn(4)}
		if f.Ext {
			f.Mask <<= 18
		}
		f.Match = f.Mask & r.Int()
		l = append(l, f)
	}
	return l
}

// randomCounter returns a valid counter, often one that is about to change its state.
func randomCounter(r *rand.Rand) api.Counter {
	edge := func(edges ...int) int { return edges[r.Intn(len(edges))] }
	c := api.Counter{State: 1 + r.Intn(3)}
	switch c.State {
	case api.Active:
		c.Tec, c.Rec = edge(0, 1, 119, 120, 127, r.Intn(128)), edge(0, 1, 119, 120, 126, 127, r.Intn(128))
	case api.Passive:
		c.Tec, c.Rec = edge(128, 247, 248, 255, 128+r.Intn(128)), edge(0, 127, 128, 247, 254, 255, r.Intn(256))
		if r.Intn(2) == 0 {
			c.Tec, c.Rec = edge(0, 119, 120, 127, 128, r.Intn(256)), edge(128, 255, 128+r.Intn(128))
		}
	case api.Off:
		c.Tec, c.Rest = 256, edge(0, 126, 127, r.Intn(128))
	}
	return c
}

// randomNodes returns valid nodes, in some buses few of which have anything to send, or are not Off.
func randomNodes(r *rand.Rand) []api.Node {
	l := make([]api.Node, 1+r.Intn(api.MaxNodes))
	busy, down := r.Intn(4), r.Intn(3) == 0
	for i := range l {
		l[i] = api.Node{Filters: randomFilters(r), Count: randomCounter(r)}
		if down && r.Intn(4) > 0 {
			l[i].Count = api.Counter{Tec: 256, State: api.Off, Rest: r.Intn(128)}
		}
		if r.Intn(3) < busy {
			for range []int{0, 1, 2, 15, 16, r.Intn(17)}[r.Intn(6)] {
				l[i].Queue = append(l[i].Queue, randomFrame(r))
			}
		}
		for range []int{0, 1, 62, 63, 64}[r.Intn(5)] {
			l[i].Got = append(l[i].Got, randomFrame(r))
		}
	}
	return l
}

// randomHit returns one that often names nobody, and otherwise also some who are not there, and some twice.
func randomHit(r *rand.Rand, nodes int) api.Hit {
	var who []int
	if r.Intn(2) == 0 {
		return api.Hit{}
	}
	for range r.Intn(4) {
		who = append(who, r.Intn(nodes))
	}
	for range r.Intn(3) {
		who = append(who, []int{-1, nodes, nodes + 1, math.MinInt, math.MaxInt, 1 << 32, r.Intn(nodes)}[r.Intn(7)])
	}
	return api.Hit{Who: who}
}

// P10.1

func TestExamples(t *testing.T) { // P10.1, J1
	five := api.Frame{ID: 5, Len: 1, Data: []byte{7}}
	bits := wire.Length(five)
	tests := []struct {
		l        []api.Node
		who      []int
		told     api.Told
		tec, rec []int
	}{
		{[]api.Node{with(active, 5), with(active)}, nil, api.Told{Frame: five, Ok: true, Bits: bits + 3}, []int{0, 0}, []int{0, 0}},
		{[]api.Node{with(active, 5), with(active)}, []int{0}, api.Told{Frame: five, Bits: bits + 23}, []int{8, 0}, []int{0, 1}},
		{[]api.Node{with(active, 5), with(active)}, []int{1}, api.Told{Frame: five, Bits: bits + 23}, []int{8, 0}, []int{0, 8}},
		{[]api.Node{with(active, 5)}, nil, api.Told{Frame: five, Bits: bits + 23}, []int{8}, []int{0}},
		{[]api.Node{with(active), with(passive)}, []int{0, 1}, api.Told{Winner: -1, Bits: 11}, []int{0, 130}, []int{0, 140}},
	}
	for i, test := range tests {
		after, told := Slot(test.l, api.Hit{Who: test.who})
		if !sameTold(told, test.told) {
			t.Errorf("%d: %+v; want %+v", i, told, test.told)
		}
		for k, n := range after {
			if n.Count.Tec != test.tec[k] || n.Count.Rec != test.rec[k] {
				t.Errorf("%d: node %d has %+v", i, k, n.Count)
			}
		}
	}
}

// state is what one slot may change of a node.
type state struct {
	c          api.Counter
	queue, got int
}

func TestCases(t *testing.T) { // P10.1, J1: each sentence, with what its conditions just allow and just do not
	mute := with(active)
	mute.Filters = []api.Filter{{Mask: 0x7FF, Match: 6}}
	full := with(active)
	full.Got = make([]api.Frame, 64)
	other := holding(api.Frame{ID: 5, Len: 1, Data: []byte{8}})
	longer := holding(api.Frame{ID: 5, Len: 2, Data: []byte{7, 7}})
	up := func(tec, rec int) api.Counter { return api.Counter{Tec: tec, Rec: rec, State: api.Active} }
	pas := func(tec, rec int) api.Counter { return api.Counter{Tec: tec, Rec: rec, State: api.Passive} }
	tests := []struct {
		name   string
		l      []api.Node
		who    []int
		winner int
		ok     bool
		want   []state
	}{
		{"good", []api.Node{with(up(9, 9)), with(up(9, 9), 5), with(passive)}, nil, 1, true, []state{{up(9, 8), 0, 1}, {up(8, 9), 0, 0}, {pas(130, 127), 0, 1}}},
		{"the loser receives", []api.Node{with(up(9, 9), 6), with(up(9, 9), 5, 7)}, nil, 1, true, []state{{up(9, 8), 1, 1}, {up(8, 9), 1, 0}}},
		{"filters", []api.Node{mute, with(active, 5)}, nil, 1, true, []state{{active, 0, 0}, {active, 0, 0}}},
		{"no room", []api.Node{full, with(active, 5)}, nil, 1, true, []state{{active, 0, 64}, {active, 0, 0}}},
		{"the winner sees it", []api.Node{with(active), with(active, 5), with(active, 6)}, []int{1}, 1, false, []state{{up(0, 1), 0, 0}, {up(8, 0), 1, 0}, {up(0, 1), 1, 0}}},
		{"an Active one sees it", []api.Node{with(active), with(active, 5), with(active, 6)}, []int{0}, 1, false, []state{{up(0, 8), 0, 0}, {up(8, 0), 1, 0}, {up(0, 1), 1, 0}}},
		{"an Active loser sees it", []api.Node{with(active), with(active, 5), with(active, 6)}, []int{2}, 1, false, []state{{up(0, 1), 0, 0}, {up(8, 0), 1, 0}, {up(0, 8), 1, 0}}},
		{"all see it", []api.Node{with(active), with(active, 5), with(pas(0, 130)), with(off)}, []int{0, 1, 2, 3}, 1, false, []state{{up(0, 8), 0, 0}, {up(8, 0), 1, 0}, {pas(0, 131), 0, 0}, {off, 0, 0}}},
		{"a Passive one sees it", []api.Node{with(active), with(active, 5), with(pas(128, 3))}, []int{2}, 1, true, []state{{active, 0, 1}, {active, 0, 0}, {pas(128, 4), 0, 0}}},
		{"a Passive loser sees it", []api.Node{with(active), with(active, 5), with(pas(128, 3), 6)}, []int{2}, 1, true, []state{{active, 0, 1}, {active, 0, 0}, {pas(128, 4), 1, 0}}},
		{"one that is Off sees it", []api.Node{with(active), with(active, 5), with(off, 3)}, []int{2}, 1, true, []state{{active, 0, 1}, {active, 0, 0}, {off, 1, 0}}},
		{"the only other one is Passive and sees it", []api.Node{with(active, 5), with(passive)}, []int{1}, 0, true, []state{{active, 0, 0}, {pas(130, 141), 0, 0}}},
		{"a Passive winner sees it", []api.Node{with(active), with(passive, 5)}, []int{1}, 1, false, []state{{up(0, 1), 0, 0}, {pas(138, 140), 1, 0}}},
		{"a Passive winner, an Active one sees it", []api.Node{with(active), with(passive, 5)}, []int{0}, 1, false, []state{{up(0, 8), 0, 0}, {pas(138, 140), 1, 0}}},
		{"a Passive winner, good", []api.Node{with(active), with(passive, 5)}, nil, 1, true, []state{{active, 0, 1}, {pas(129, 140), 0, 0}}},
		{"nobody is there", []api.Node{with(active, 5, 4)}, []int{1, -1}, 0, false, []state{{up(8, 0), 2, 0}}},
		{"nobody is there, and it is Passive", []api.Node{with(passive, 5)}, []int{1, -1}, 0, false, []state{{passive, 1, 0}}},
		{"nobody is there, and it is Passive and sees it", []api.Node{with(passive, 5)}, []int{0}, 0, false, []state{{pas(138, 140), 1, 0}}},
		{"nobody is there, and it becomes Passive", []api.Node{with(up(120, 3), 5)}, nil, 0, false, []state{{pas(128, 3), 1, 0}}},
		{"it becomes Off", []api.Node{with(pas(248, 3), 5), with(active)}, []int{0}, 0, false, []state{{api.Counter{Tec: 256, State: api.Off}, 1, 0}, {up(0, 1), 0, 0}}},
		{"all others are Off", []api.Node{with(off, 1), with(active, 5), with(off)}, []int{0, 2}, 1, false, []state{{off, 1, 0}, {up(8, 0), 1, 0}, {off, 0, 0}}},
		{"all others are Off, and it is Passive", []api.Node{with(off, 1), with(passive, 5), with(off)}, []int{0, 2}, 1, false, []state{{off, 1, 0}, {passive, 1, 0}, {off, 0, 0}}},
		{"twins", []api.Node{with(up(9, 9), 5), with(up(9, 9)), with(up(9, 9), 6, 5)}, nil, 0, true, []state{{up(8, 9), 0, 0}, {up(9, 8), 0, 1}, {up(8, 9), 1, 0}}},
		{"twins alone", []api.Node{with(active, 5), with(active, 5)}, nil, 0, false, []state{{up(8, 0), 1, 0}, {up(8, 0), 1, 0}}},
		{"twins alone, one is Passive", []api.Node{with(passive, 5), with(active, 5), with(off)}, nil, 0, false, []state{{passive, 1, 0}, {up(8, 0), 1, 0}, {off, 0, 0}}},
		{"twins alone, the other one is Passive", []api.Node{with(active, 5), with(passive, 5), with(off)}, nil, 0, false, []state{{up(8, 0), 1, 0}, {passive, 1, 0}, {off, 0, 0}}},
		{"the twin sees it", []api.Node{with(active, 5), with(active, 5), with(active)}, []int{1}, 0, false, []state{{up(8, 0), 1, 0}, {up(8, 0), 1, 0}, {up(0, 1), 0, 0}}},
		{"a Passive twin sees it", []api.Node{with(active, 5), with(passive, 5), with(active)}, []int{1}, 0, false, []state{{up(8, 0), 1, 0}, {pas(138, 140), 1, 0}, {up(0, 1), 0, 0}}},
		{"twins alone, one sees it", []api.Node{with(passive, 5), with(passive, 5)}, []int{1}, 0, false, []state{{pas(138, 140), 1, 0}, {pas(138, 140), 1, 0}}},
		{"twins with other data", []api.Node{with(passive, 5), other, with(passive)}, nil, 0, false, []state{{pas(138, 140), 1, 0}, {up(8, 0), 1, 0}, {pas(130, 141), 0, 0}}},
		{"twins with other lengths", []api.Node{with(active, 5), longer, with(active)}, nil, 0, false, []state{{up(8, 0), 1, 0}, {up(8, 0), 1, 0}, {up(0, 1), 0, 0}}},
		{"twins with other data, alone", []api.Node{with(passive, 5), other}, nil, 0, false, []state{{pas(138, 140), 1, 0}, {up(8, 0), 1, 0}}},
		{"three twins, one with other data, and an Active one sees it", []api.Node{with(active, 5), with(active, 5), other, with(active)}, []int{3}, 0, false, []state{{up(8, 0), 1, 0}, {up(8, 0), 1, 0}, {up(8, 0), 1, 0}, {up(0, 8), 0, 0}}},
		{"three twins, the second one with other data", []api.Node{with(active, 5), other, with(active, 5), with(active)}, nil, 0, false, []state{{up(8, 0), 1, 0}, {up(8, 0), 1, 0}, {up(8, 0), 1, 0}, {up(0, 1), 0, 0}}},
		{"three twins, the last one with other data", []api.Node{with(active, 5), with(active, 5), other, with(active)}, nil, 0, false, []state{{up(8, 0), 1, 0}, {up(8, 0), 1, 0}, {up(8, 0), 1, 0}, {up(0, 1), 0, 0}}},
		{"one that is Off is no twin", []api.Node{with(off, 5), with(active, 5), with(active)}, []int{0}, 1, true, []state{{off, 1, 0}, {active, 0, 0}, {active, 0, 1}}},
		{"one that has it queued behind another one is no twin", []api.Node{with(active, 5), with(active, 5, 4)}, nil, 1, true, []state{{active, 1, 1}, {active, 1, 0}}},
		{"other numbers and the same twice", []api.Node{with(active, 5), with(active)}, []int{1, 1, -1, 2, 8, math.MinInt, math.MaxInt, 1 << 32}, 0, false, []state{{up(8, 0), 1, 0}, {up(0, 8), 0, 0}}},
		{"other numbers alone", []api.Node{with(active, 5), with(active)}, []int{-1, 2, 8, math.MinInt, math.MaxInt, 1 << 32}, 0, true, []state{{active, 0, 0}, {active, 0, 1}}},
	}
	for _, test := range tests {
		before := copyNodes(test.l)
		after, told := Slot(test.l, api.Hit{Who: test.who})
		if told.Winner != test.winner || told.Ok != test.ok || len(after) != len(test.want) {
			t.Errorf("%s: %+v", test.name, told)
			continue
		}
		first, _ := node.Next(before[test.winner])
		if bits := wire.Length(first) + map[bool]int{true: 3, false: 23}[test.ok]; told.Bits != bits || !plainSame(told.Frame, first) {
			t.Errorf("%s: %+v; want %+v and %d bits", test.name, told, first, bits)
		}
		for i, n := range after {
			if got := (state{n.Count, len(n.Queue), len(n.Got)}); got != test.want[i] {
				t.Errorf("%s: node %d is %+v; want %+v", test.name, i, got, test.want[i])
			}
		}
	}
}

func TestQuiet(t *testing.T) { // P10.1, J1
	last := api.Counter{Tec: 256, State: api.Off, Rest: 127}
	got := with(active)
	got.Got = []api.Frame{{ID: 1}}
	l := []api.Node{with(off, 1, 2), with(active), with(passive), with(last, 3), got}
	for _, who := range [][]int{nil, {0, 1, 2, 3, 4}, {-1, 9}} {
		after, told := Slot(l, api.Hit{Who: who})
		want := copyNodes(l)
		want[0].Count.Rest++
		want[3].Count = active
		if !sameNodes(after, want) || !sameTold(told, api.Told{Winner: -1, Bits: 11}) {
			t.Errorf("with %v: %+v, %+v", who, after, told)
		}
	}
}

func TestOffRestsInQuietSlotsAlone(t *testing.T) { // P10.1, J1
	l := []api.Node{with(off), with(active, 5, 6), with(active)}
	for _, who := range [][]int{nil, {0}, {1}, {2}} {
		after, _ := Slot(l, api.Hit{Who: who})
		if after[0].Count != off {
			t.Errorf("with %v it is %+v", who, after[0].Count)
		}
	}
}

func TestWinner(t *testing.T) { // P10.1, J1
	frames := []api.Frame{
		{ID: 5, Len: 8, Data: make([]byte, 8)}, {ID: 5, Remote: true, Len: 3}, {ID: 4, Remote: true}, {ID: 6}, {ID: 0}, {ID: 0x7FF},
		{Ext: true, ID: 5 << 18}, {Ext: true, ID: 5<<18 - 1}, {Ext: true, ID: 5 << 18, Remote: true}, {Ext: true, ID: 9},
		{Ext: true, ID: 1<<29 - 1}, {Ext: true, ID: 1<<29 - 1, Remote: true, Len: 8}, {ID: 0x555, Len: 2, Data: []byte{255, 255}},
	}
	for _, a := range frames {
		for _, b := range frames {
			if plainRank(a) == plainRank(b) {
				continue
			}
			winner, first := 1, a
			if plainRank(b) < plainRank(a) {
				winner, first = 2, b
			}
			l := []api.Node{with(active), holding(a), holding(b), with(off, 0)}
			after, told := Slot(l, api.Hit{})
			if !sameTold(told, api.Told{Winner: winner, Frame: first, Ok: true, Bits: wire.Length(first) + 3}) {
				t.Fatalf("of %+v and %+v: %+v", a, b, told)
			}
			if !sameFrames(after[0].Got, []api.Frame{first}) || !sameFrames(after[3-winner].Got, []api.Frame{first}) {
				t.Fatalf("of %+v and %+v: %+v", a, b, after)
			}
			_, told = Slot(l, api.Hit{Who: []int{0}})
			if !sameTold(told, api.Told{Winner: winner, Frame: first, Bits: wire.Length(first) + 23}) {
				t.Fatalf("of %+v and %+v, spoilt: %+v", a, b, told)
			}
		}
	}
}

// kinds names what is special about a slot.
func kinds(l []api.Node, p plain) []string {
	if p.winner < 0 {
		return []string{"quiet"}
	}
	var all []string
	note := func(is bool, what string) {
		if is {
			all = append(all, what)
		}
	}
	c := l[p.winner].Count
	note(!p.disturbed && !p.unheeded, "good")
	note(!p.disturbed && !p.unheeded && len(p.transmits) > 1, "good twins")
	note(!p.disturbed && p.unheeded, "only unacknowledged")
	note(!p.disturbed && p.unheeded && c.State == api.Passive, "only unacknowledged and Passive")
	note(!p.disturbed && p.unheeded && len(p.transmits) > 1, "only unacknowledged twins")
	note(p.disturbed && p.unheeded, "disturbed and unacknowledged")
	note(p.disturbed && !p.unheeded, "only disturbed")
	note(p.disturbed && c.State == api.Passive, "disturbed and Passive")
	note(p.unlike, "unlike twins")
	note(len(p.next) > len(p.transmits), "losers")
	for i, n := range l {
		if p.sees[i] && !p.transmits[i] && !p.disturbed && !p.unheeded {
			all = append(all, "good, seen corrupted in state "+string(rune('0'+n.Count.State)))
		}
	}
	return all
}

func TestRandomSlots(t *testing.T) { // P10.1, P10.5, P3
	r := rand.New(rand.NewSource(10))
	seen := map[string]int{}
	for range 20000 {
		l := randomNodes(r)
		h := randomHit(r, len(l))
		before, who := copyNodes(l), slices.Clone(h.Who)
		if !allRight(l) {
			t.Fatalf("the random nodes %+v are not valid", l)
		}
		after, told := Slot(l, h)
		want, wantTold := plainSlot(before, who)
		if !sameNodes(after, want) {
			t.Fatalf("Slot(%+v, %v) = %+v; want %+v", before, who, after, want)
		}
		if !sameTold(told, wantTold) {
			t.Fatalf("Slot(%+v, %v) tells %+v; want %+v", before, who, told, wantTold)
		}
		if !allRight(after) {
			t.Fatalf("Slot(%+v, %v) = %+v, which are not valid", before, who, after)
		}
		if !sameNodes(l, before) || !slices.Equal(h.Who, who) {
			t.Fatalf("the arguments %+v, %v were changed to %+v, %v", before, who, l, h.Who)
		}
		for _, kind := range kinds(before, look(before, who)) {
			seen[kind]++
		}
	}
	for _, kind := range []string{
		"quiet", "good", "good twins", "only unacknowledged", "only unacknowledged and Passive", "only unacknowledged twins",
		"disturbed and unacknowledged", "only disturbed", "disturbed and Passive", "unlike twins", "losers",
		"good, seen corrupted in state 2", "good, seen corrupted in state 3",
	} {
		if seen[kind] < 50 {
			t.Errorf("of 20000 random slots %d are '%s': the test tells little", seen[kind], kind)
		}
	}
}

func TestRandomLives(t *testing.T) { // P10.1, J2, P10.5
	r := rand.New(rand.NewSource(101))
	for range 300 {
		l := randomNodes(r)
		h := make([]api.Hit, r.Intn(60))
		for i := range h {
			h[i] = randomHit(r, len(l))
		}
		want, wantTold := copyNodes(l), []api.Told{}
		for i := range h {
			var told api.Told
			want, told = plainSlot(want, h[i].Who)
			wantTold = append(wantTold, told)
		}
		after, told := Slots(l, h)
		if !sameNodes(after, want) || !slices.EqualFunc(told, wantTold, sameTold) {
			t.Fatalf("Slots(%+v, %v) = %+v, %+v; want %+v, %+v", l, h, after, told, want, wantTold)
		}
		if !allRight(after) {
			t.Fatalf("Slots(%+v, %v) = %+v, which are not valid", l, h, after)
		}
		cut := r.Intn(len(h) + 1)
		half, toldHalf := Slots(l, h[:cut])
		rest, toldRest := Slots(half, h[cut:])
		if !sameNodes(rest, after) || !slices.EqualFunc(slices.Concat(toldHalf, toldRest), told, sameTold) {
			t.Fatalf("Slots(%+v, %v) is not what it is in two parts", l, h)
		}
	}
}

func TestNoSlots(t *testing.T) { // P10.1, J2
	l := []api.Node{with(active, 5), with(off)}
	for _, h := range [][]api.Hit{nil, {}} {
		after, told := Slots(l, h)
		if !sameNodes(after, l) || len(told) != 0 {
			t.Errorf("Slots of none: %+v, %+v", after, told)
		}
	}
}

// P10.2

// checkAllOrNone holds the promise against one slot, without asking whether it was spoilt.
func checkAllOrNone(t *testing.T, l []api.Node, who []int, after []api.Node, told api.Told) {
	t.Helper()
	for i, n := range l {
		queue, got := n.Queue, n.Got
		next, sends := node.Next(n)
		switch {
		case !told.Ok:
		case sends && plainSame(next, told.Frame): // it transmitted it
			at := slices.IndexFunc(queue, func(f api.Frame) bool { return plainSame(f, next) })
			queue = slices.Concat(queue[:at], queue[at+1:])
		case n.Count.State == api.Off || n.Count.State == api.Passive && slices.Contains(who, i):
		case len(got) < 64 && takes(n.Filters, told.Frame):
			got = slices.Concat(got, []api.Frame{told.Frame})
		}
		if !sameFrames(after[i].Queue, queue) || !sameFrames(after[i].Got, got) {
			t.Fatalf("of %+v with %v, told %+v, node %d is %+v", l, who, told, i, after[i])
		}
	}
}

func takes(l []api.Filter, f api.Frame) bool {
	for _, x := range l {
		if x.Ext == f.Ext && f.ID&x.Mask == x.Match {
			return true
		}
	}
	return len(l) == 0
}

func TestAllOrNone(t *testing.T) { // P10.2
	r := rand.New(rand.NewSource(102))
	for range 10000 {
		l := randomNodes(r)
		h := randomHit(r, len(l))
		after, told := Slot(l, h)
		checkAllOrNone(t, l, h.Who, after, told)
		if told.Winner < 0 {
			continue
		}
		if next, ok := node.Next(l[told.Winner]); !ok || !plainSame(next, told.Frame) {
			t.Fatalf("of %+v with %v, %+v is told, which is not what the winner sends", l, h.Who, told)
		}
	}
}

func TestActiveNodesAllOrNone(t *testing.T) { // P10.2, and T2
	// With all nodes Active, whoever sees what, a frame is received by all others or by none.
	many := map[bool]int{}
	for nodes := 2; nodes <= api.MaxNodes; nodes++ {
		for set := range 1 << nodes {
			l := make([]api.Node, nodes)
			for i := range l {
				l[i] = with(active)
			}
			l[set%nodes] = with(active, 5)
			var who []int
			for i := range nodes {
				if set>>i&1 == 1 {
					who = append(who, i)
				}
			}
			after, told := Slot(l, api.Hit{Who: who})
			got := 0
			for _, n := range after {
				got += len(n.Got)
			}
			if told.Ok != (set == 0) || got != map[bool]int{true: nodes - 1, false: 0}[told.Ok] {
				t.Fatalf("with %v of %d nodes: %+v, received by %d", who, nodes, told, got)
			}
			many[told.Ok]++
		}
	}
	if many[true] != 7 {
		t.Errorf("%d slots were good", many[true])
	}
}

// times counts how often l has a frame.
func times(l []api.Frame, f api.Frame) int {
	many := 0
	for _, g := range l {
		if plainSame(f, g) {
			many++
		}
	}
	return many
}

func TestExactlyOnce(t *testing.T) { // P10.2: over whole lives, each frame with data of its own
	r := rand.New(rand.NewSource(1021))
	left, went := 0, 0
	for range 300 {
		l := make([]api.Node, 2+r.Intn(7))
		for i := range l {
			l[i] = api.Node{Count: randomCounter(r)}
		}
		var all []api.Frame
		for i := range r.Intn(65) { // no more than each node has room for
			at := r.Intn(len(l))
			if len(l[at].Queue) < 16 {
				f := api.Frame{ID: at<<4 | r.Intn(16), Len: 1, Data: []byte{byte(i)}}
				l[at].Queue = append(l[at].Queue, f)
				all = append(all, f)
			}
		}
		received := make([][]api.Frame, len(l))
		var sent []api.Frame
		for range r.Intn(200) {
			h := randomHit(r, len(l))
			after, told := Slot(l, h)
			if told.Ok {
				sent = append(sent, told.Frame)
			}
			for i, n := range l {
				deaf := n.Count.State == api.Off || n.Count.State == api.Passive && slices.Contains(h.Who, i)
				if told.Ok && i != told.Winner && !deaf {
					received[i] = append(received[i], told.Frame)
				}
			}
			l = after
		}
		for i, n := range l {
			if !sameFrames(n.Got, received[i]) {
				t.Fatalf("node %d received %+v; want %+v", i, n.Got, received[i])
			}
		}
		for _, f := range all {
			queued := times(l[f.ID>>4].Queue, f)
			if queued+times(sent, f) != 1 {
				t.Fatalf("%+v is queued %d times, and was transmitted %d times", f, queued, times(sent, f))
			}
			left += queued
			went += times(sent, f)
		}
	}
	if left < 500 || went < 500 {
		t.Errorf("%d frames are left and %d went: the test tells little", left, went)
	}
}

// P10.3

// distinctNodes returns nodes that are not Off, no two of which have frames with equal arbitration fields, and all the frames in the order of these.
func distinctNodes(r *rand.Rand) ([]api.Node, []api.Frame) {
	l := make([]api.Node, 2+r.Intn(7))
	owner := map[int]int{}
	var all []api.Frame
	for i := range l {
		for l[i].Count = randomCounter(r); l[i].Count.State == api.Off; {
			l[i].Count = randomCounter(r)
		}
		for range r.Intn(17) {
			f := randomFrame(r)
			if !f.Ext {
				f.ID |= r.Intn(0x40) << 2
			}
			if who, has := owner[plainRank(f)]; !has || who == i {
				owner[plainRank(f)] = i
				l[i].Queue = append(l[i].Queue, f)
				all = append(all, f)
			}
		}
	}
	// One node may have several with equal fields; these go in the order in which they were queued, hence a stable sort.
	sort.SliceStable(all, func(i, j int) bool { return plainRank(all[i]) < plainRank(all[j]) })
	return l, all
}

func TestOrder(t *testing.T) { // P10.3
	r := rand.New(rand.NewSource(103))
	for range 600 {
		l, all := distinctNodes(r)
		h := make([]api.Hit, len(all)+2)
		for i := range h {
			h[i].Who = []int{-1, len(l), 99}[:r.Intn(4)] // they name none of the nodes: no disturbance
		}
		owner := func(f api.Frame) int {
			return slices.IndexFunc(l, func(n api.Node) bool { return times(n.Queue, f) > 0 })
		}
		after, told := Slots(l, h)
		for i, f := range all {
			if want := (api.Told{Winner: owner(f), Frame: f, Ok: true, Bits: wire.Length(f) + 3}); !sameTold(told[i], want) {
				t.Fatalf("slot %d of %+v tells %+v; want %+v", i, l, told[i], want)
			}
		}
		for _, last := range told[len(all):] {
			if !sameTold(last, api.Told{Winner: -1, Bits: 11}) {
				t.Fatalf("after all frames of %+v: %+v", l, last)
			}
		}
		for i, n := range after {
			var others []api.Frame
			for _, f := range all {
				if owner(f) != i && len(others) < 64 {
					others = append(others, f)
				}
			}
			if len(n.Queue) != 0 || !sameFrames(n.Got, others) {
				t.Fatalf("node %d is %+v; want %+v received", i, n, others)
			}
		}
	}
}

func TestOrderOfAll(t *testing.T) { // P10.3: as many frames as a bus can have, with identifiers that go round
	l := make([]api.Node, api.MaxNodes)
	for i := range l {
		l[i] = with(passive)
		for k := range api.MaxQueue {
			l[i].Queue = append(l[i].Queue, api.Frame{ID: (api.MaxQueue-1-k)*api.MaxNodes + i})
		}
	}
	after, told := Slots(l, make([]api.Hit, api.MaxNodes*api.MaxQueue))
	for i := range told {
		if !told[i].Ok || told[i].Frame.ID != i || told[i].Winner != i%api.MaxNodes {
			t.Fatalf("slot %d tells %+v", i, told[i])
		}
	}
	for i, n := range after {
		if len(n.Queue) != 0 || len(n.Got) != api.MaxGot {
			t.Errorf("node %d has %d frames queued and %d received", i, len(n.Queue), len(n.Got))
		}
	}
}

// P10.4

func TestBroken(t *testing.T) { // P10.4
	for nodes := 2; nodes <= api.MaxNodes; nodes++ {
		for broken := range nodes {
			for _, id := range []int{0, 0x100, 0x7FF} { // before, among and behind the others' frames
				checkBroken(t, nodes, broken, id)
			}
		}
	}
}

// checkBroken has one node corrupt each of its own frames, but no other one, till it is Off.
func checkBroken(t *testing.T, nodes, broken, id int) {
	t.Helper()
	l := make([]api.Node, nodes)
	for i := range l {
		l[i] = with(active, 0x80+i, 0x180+i)
	}
	l[broken] = with(active, id)
	own, others := 0, 0
	for own < 32 {
		var h api.Hit
		if look(l, nil).winner == broken {
			h.Who = []int{broken}
			own++
		} else {
			others++
		}
		was := l[broken].Count.State
		after, told := Slot(l, h)
		if told.Ok == (told.Winner == broken) || was == api.Off || others > 2*(nodes-1) {
			t.Fatalf("node %d of %d, after %d and %d slots: %+v, %+v", broken, nodes, own, others, told, l[broken])
		}
		l = after
	}
	if l[broken].Count != (api.Counter{Tec: 256, State: api.Off}) || len(l[broken].Queue) != 1 {
		t.Fatalf("node %d of %d is %+v", broken, nodes, l[broken])
	}
	if nodes == 2 { // nobody is there any more that would answer the other one
		return
	}
	left := 2*(nodes-1) - others
	after, told := Slots(l, make([]api.Hit, left+128))
	for i := range told {
		if told[i].Ok != (i < left) {
			t.Fatalf("node %d of %d is Off: slot %d tells %+v", broken, nodes, i, told[i])
		}
	}
	for i, n := range after {
		if n.Count.State != api.Active || i != broken && (len(n.Queue) != 0 || len(n.Got) != 2*(nodes-2)) {
			t.Fatalf("node %d of %d was Off: node %d is %+v", broken, nodes, i, n)
		}
	}
}

func TestBrokenAfter32(t *testing.T) { // P10.4
	h := slices.Repeat([]api.Hit{{Who: []int{1}}}, 32)
	l := []api.Node{with(active, 9), with(active, 3), with(active)}
	for many := range 33 {
		after, _ := Slots(l, h[:many])
		want := api.Active
		switch {
		case many == 32:
			want = api.Off
		case many >= 16:
			want = api.Passive
		}
		if n := after[1]; n.Count.State != want || len(n.Queue) != 1 {
			t.Errorf("after %d slots it is %+v", many, n)
		}
		for _, i := range []int{0, 2} {
			if c := after[i].Count; c != (api.Counter{Rec: many, State: api.Active}) {
				t.Errorf("after %d slots node %d has %+v", many, i, c)
			}
		}
	}
	after, _ := Slots(l, h)
	after, told := Slot(after, api.Hit{Who: []int{1}}) // it still sees it corrupted, but no longer tells
	if !told.Ok || told.Winner != 0 || !sameFrames(after[2].Got, l[0].Queue) {
		t.Errorf("the others' next slot: %+v, %+v", told, after)
	}
}

func TestAlone(t *testing.T) { // P10.4
	down := api.Counter{Tec: 256, State: api.Off}
	for _, l := range [][]api.Node{
		{with(active, 5)},
		{with(active, 5, 5, 3)},
		{with(active, 5), with(down), with(down, 1)}, // nobody else who is not Off
	} {
		for many := range 200 {
			after, told := Slots(l, make([]api.Hit, many))
			want := api.Counter{Tec: min(8*many, 128), State: api.Active}
			if many >= 16 {
				want.State = api.Passive
			}
			n := after[0]
			if n.Count != want || !sameFrames(n.Queue, l[0].Queue) || len(n.Got) != 0 {
				t.Fatalf("after %d slots it is %+v", many, n)
			}
			if many > 0 && (told[many-1].Ok || told[many-1].Winner != 0) {
				t.Fatalf("slot %d tells %+v", many, told[many-1])
			}
		}
	}
}

func TestAloneFromAnyCounter(t *testing.T) { // P10.4
	for tec := range 256 {
		for _, rec := range []int{0, 127, 128, 255} {
			c := api.Counter{Tec: tec, Rec: rec, State: api.Active}
			if tec > 127 || rec > 127 {
				c.State = api.Passive
			}
			after, _ := Slots([]api.Node{with(c, 5)}, make([]api.Hit, 40))
			if n := after[0]; n.Count.State != api.Passive || len(n.Queue) != 1 {
				t.Fatalf("from %+v on it becomes %+v", c, n)
			}
		}
	}
	// As soon as another one is there, it goes on.
	after, _ := Slots([]api.Node{with(active, 5)}, make([]api.Hit, 1000))
	after, told := Slot([]api.Node{after[0], with(active)}, api.Hit{})
	if !told.Ok || len(after[0].Queue) != 0 || len(after[1].Got) != 1 || after[0].Count != (api.Counter{Tec: 127, State: api.Active}) {
		t.Errorf("with another one: %+v, %+v", told, after)
	}
}

// P3 and P1

// roomy returns l with free places behind it that hold frames, as the front of a longer list.
func roomy(l []api.Frame) []api.Frame {
	return append(slices.Clone(l), api.Frame{ID: 1}, api.Frame{ID: 2})[:len(l)]
}

func TestArgumentsStay(t *testing.T) { // P3
	l := []api.Node{with(active, 9, 5), with(active, 6), with(passive), with(off)}
	for i := range l {
		l[i].Queue, l[i].Got = roomy(l[i].Queue), roomy([]api.Frame{{ID: 8, Len: 1, Data: []byte{1}}})
	}
	before := copyNodes(l)
	h := []api.Hit{{}, {Who: []int{1}}, {Who: []int{2, 2}}, {}, {}}
	after, told := Slots(l, h)
	for i, n := range l {
		if behind := n.Queue[:len(n.Queue)+2][len(n.Queue):]; behind[0].ID != 1 || behind[1].ID != 2 {
			t.Errorf("behind the queue of node %d stand %+v", i, behind)
		}
		if behind := n.Got[:3][1:]; behind[0].ID != 1 || behind[1].ID != 2 {
			t.Errorf("behind what node %d received stand %+v", i, behind)
		}
	}
	if !sameNodes(l, before) {
		t.Errorf("the nodes were changed to %+v", l)
	}
	again, toldAgain := Slots(l, h)
	if !sameNodes(again, after) || !slices.EqualFunc(toldAgain, told, sameTold) {
		t.Error("a second call answers otherwise")
	}
	// The nodes are not put into the list that was handed in, nor is that list answered.
	none, _ := Slots(l, nil)
	none[0], after[0] = api.Node{}, api.Node{}
	if !sameNodes(l, before) {
		t.Error("the answer is the list that was handed in")
	}
}

func TestDescriptionHasItsOwnData(t *testing.T) { // P3
	for _, who := range [][]int{nil, {0}} {
		l := []api.Node{with(active, 5), with(active)}
		after, told := Slot(l, api.Hit{Who: who})
		l[0].Queue[0].Data[0] = 99
		if told.Frame.Data[0] != 7 {
			t.Errorf("with %v the description has changed with the argument", who)
		}
		kept := copyNodes(after)
		told.Frame.Data[0] = 55
		if !sameNodes(after, kept) {
			t.Errorf("with %v the nodes have the description's data", who)
		}
	}
}

func TestManySlots(t *testing.T) { // P1
	l := []api.Node{with(active, 5), with(active)}
	h := slices.Repeat([]api.Hit{{Who: []int{0}}}, 32)
	h = append(h, make([]api.Hit, 20000)...)
	after, told := Slots(l, h)
	if len(told) != len(h) || len(after[0].Queue) != 0 || len(after[1].Got) != 1 || after[0].Count != active {
		t.Errorf("after many slots: %+v", after)
	}
	for i := range told {
		if want := i == 32+128; told[i].Ok != want { // T3: after 128 quiet slots it recovers
			t.Errorf("slot %d tells %+v", i, told[i])
		}
	}
}

func TestManyInWho(t *testing.T) { // P1
	l := []api.Node{with(active, 5), with(active)}
	who := slices.Repeat([]int{7, -3}, 1<<18)
	if _, told := Slot(l, api.Hit{Who: who}); !told.Ok {
		t.Errorf("with many who are not there: %+v", told)
	}
	who = append(who, 1)
	if after, told := Slot(l, api.Hit{Who: who}); told.Ok || after[1].Count.Rec != 8 {
		t.Errorf("with one behind many who are not there: %+v, %+v", told, after)
	}
}

func TestWrongArguments(t *testing.T) { // nothing is specified for these, but that no call panics or goes on for ever
	frames := []api.Frame{
		{ID: 1 << 11}, {ID: -1}, {ID: math.MaxInt}, {ID: math.MinInt}, {Ext: true, ID: 1 << 29}, {Ext: true, ID: -1},
		{Len: 1}, {Data: []byte{1}}, {Len: 9, Data: make([]byte, 9)}, {Len: -1}, {Len: math.MinInt}, {Len: math.MaxInt, Data: make([]byte, 5000)},
		{Remote: true, Len: 9}, {Remote: true, Len: 1, Data: []byte{1}}, {ID: 1},
	}
	filters := slices.Repeat([]api.Filter{{Mask: -1, Match: math.MinInt}}, 20)
	h := []api.Hit{{}, {Who: []int{0}}, {Who: []int{1, math.MinInt, math.MaxInt}}}
	var all []api.Node
	for _, state := range []int{math.MinInt, -1, 0, api.Active, api.Passive, api.Off, 4, math.MaxInt} {
		for _, tec := range []int{math.MinInt, -1, 0, 128, 256, math.MaxInt} {
			c := api.Counter{Tec: tec, Rec: tec, State: state, Rest: tec}
			all = append(all, api.Node{Queue: frames, Filters: filters, Got: slices.Repeat(frames, 5), Count: c})
			for _, f := range frames {
				one := api.Node{Queue: []api.Frame{f}, Count: c}
				for _, l := range [][]api.Node{{one}, {one, with(active)}, {with(active, 1), one}, {one, one, {}}} {
					Slots(l, h)
				}
			}
		}
	}
	Slots(all, h)
	for _, l := range [][]api.Node{nil, {}} {
		after, told := Slots(l, h)
		if len(after) != 0 || len(told) != 3 {
			t.Errorf("without nodes: %+v, %+v", after, told)
		}
	}
	many := make([]api.Node, 9)
	for i := range many {
		many[i] = with(active, 20-i)
	}
	if after, _ := Slots(many, h); len(after) != 9 {
		t.Errorf("of 9 nodes %d are left", len(after))
	}
}
