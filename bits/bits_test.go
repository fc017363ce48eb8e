package bits

import (
	"math"
	"slices"
	"testing"
)

// ones returns a sequence of many ones.
func ones(many int) []int { return slices.Repeat([]int{1}, many) }

// with returns zeros of that many elements, one of which is replaced.
func with(many, at, bit int) []int {
	l := make([]int, many)
	l[at] = bit
	return l
}

// sequences returns every valid sequence of that many elements, in the order of their numbers.
func sequences(many int) [][]int {
	all := [][]int{nil}
	for range many {
		var longer [][]int
		for _, l := range all {
			longer = append(longer, slices.Concat(l, []int{0}), slices.Concat(l, []int{1}))
		}
		all = longer
	}
	return all
}

// P1.1, A1
func TestRight(t *testing.T) {
	for _, c := range []struct {
		name string
		l    []int
		want bool
	}{
		{"nil", nil, true},
		{"empty", []int{}, true},
		{"zero", []int{0}, true},
		{"one", []int{1}, true},
		{"mixed", []int{0, 1, 1, 0}, true},
		{"long", ones(4096), true},
		{"two", []int{2}, false},
		{"minus one", []int{-1}, false},
		{"wrong first", with(40, 0, 2), false},
		{"wrong in the middle", with(40, 20, -1), false},
		{"wrong last", with(40, 39, 2), false},
		{"a multiple of 2^32", []int{1 << 32}, false},
		{"a multiple of 2^32, and 1", []int{1<<32 + 1}, false},
		{"greatest", []int{math.MaxInt}, false},
		{"least", []int{math.MinInt}, false},
	} {
		if got := Right(c.l); got != c.want {
			t.Errorf("%s: Right is %v", c.name, got)
		}
	}
}

// P1.1, A2
func TestPut(t *testing.T) {
	for _, c := range []struct {
		n, many int
		want    []int
	}{
		{5, 4, []int{0, 1, 0, 1}},
		{0, 0, nil},
		{0, 1, []int{0}},
		{1, 1, []int{1}},
		{1, 3, []int{0, 0, 1}},
		{4, 3, []int{1, 0, 0}},
		{0x7A5, 11, []int{1, 1, 1, 1, 0, 1, 0, 0, 1, 0, 1}},
		{0, 32, make([]int, 32)},
		{1, 32, with(32, 31, 1)},
		{1 << 31, 32, with(32, 0, 1)},
		{1<<32 - 1, 32, ones(32)},
	} {
		got, ok := Put(c.n, c.many)
		if !ok || !slices.Equal(got, c.want) {
			t.Errorf("Put(%d, %d) is %v, %v", c.n, c.many, got, ok)
		}
	}
}

// P1.1, A2: the least and greatest number of every width, and their neighbours outside
func TestPutEdges(t *testing.T) {
	for many := range 33 {
		if got, ok := Put(0, many); !ok || !slices.Equal(got, make([]int, many)) {
			t.Errorf("Put(0, %d) is %v, %v", many, got, ok)
		}
		if got, ok := Put(1<<many-1, many); !ok || !slices.Equal(got, ones(many)) {
			t.Errorf("Put(2^%d-1, %d) is %v, %v", many, many, got, ok)
		}
		for _, n := range []int{-1, math.MinInt, 1 << many, math.MaxInt} {
			if got, ok := Put(n, many); ok || len(got) != 0 {
				t.Errorf("Put(%d, %d) is %v, %v", n, many, got, ok)
			}
		}
	}
}

// P1.1, A2
func TestPutWrongWidth(t *testing.T) {
	for _, many := range []int{-1, -32, math.MinInt, 33, 63, 64, 65, math.MaxInt} {
		for _, n := range []int{0, 1, -1, math.MaxInt, math.MinInt} {
			if got, ok := Put(n, many); ok || len(got) != 0 {
				t.Errorf("Put(%d, %d) is %v, %v", n, many, got, ok)
			}
		}
	}
}

// P1.1, A2
func TestGet(t *testing.T) {
	for _, c := range []struct {
		name string
		l    []int
		want int
		ok   bool
	}{
		{"nil", nil, 0, true},
		{"empty", []int{}, 0, true},
		{"zero", []int{0}, 0, true},
		{"one", []int{1}, 1, true},
		{"most significant first", []int{1, 0, 0}, 4, true},
		{"leading zeros", []int{0, 0, 1, 0, 1}, 5, true},
		{"32 zeros", make([]int, 32), 0, true},
		{"32 bits, the last set", with(32, 31, 1), 1, true},
		{"32 bits, the first set", with(32, 0, 1), 1 << 31, true},
		{"32 ones", ones(32), 1<<32 - 1, true},
		{"33 zeros", make([]int, 33), 0, false},
		{"33 ones", ones(33), 0, false},
		{"64 ones", ones(64), 0, false},
		{"two", []int{2}, 0, false},
		{"minus one", []int{-1}, 0, false},
		{"wrong first", []int{2, 1, 1}, 0, false},
		{"wrong last", []int{1, 1, 2}, 0, false},
		{"32 bits, the last wrong", with(32, 31, -1), 0, false},
		{"33 bits, one wrong", with(33, 0, 2), 0, false},
		{"greatest", []int{math.MaxInt}, 0, false},
		{"least", []int{math.MinInt}, 0, false},
	} {
		if got, ok := Get(c.l); got != c.want || ok != c.ok {
			t.Errorf("%s: Get is %d, %v", c.name, got, ok)
		}
	}
}

// P1.1, A3
func TestSpread(t *testing.T) {
	for _, c := range []struct {
		b    []byte
		want []int
	}{
		{nil, nil},
		{[]byte{}, nil},
		{[]byte{0}, make([]int, 8)},
		{[]byte{0xFF}, ones(8)},
		{[]byte{0x80}, with(8, 0, 1)},
		{[]byte{0x01}, with(8, 7, 1)},
		{[]byte{0x81, 0x0F}, []int{1, 0, 0, 0, 0, 0, 0, 1, 0, 0, 0, 0, 1, 1, 1, 1}},
		{[]byte{0, 0, 0, 0, 0x01}, with(40, 39, 1)},
	} {
		if got := Spread(c.b); !slices.Equal(got, c.want) {
			t.Errorf("Spread(%v) is %v", c.b, got)
		}
	}
}

// P1.1, A3
func TestJoin(t *testing.T) {
	for _, c := range []struct {
		name string
		l    []int
		want []byte
		ok   bool
	}{
		{"nil", nil, nil, true},
		{"empty", []int{}, nil, true},
		{"8 zeros", make([]int, 8), []byte{0}, true},
		{"8 ones", ones(8), []byte{0xFF}, true},
		{"first set", with(8, 0, 1), []byte{0x80}, true},
		{"last set", with(8, 7, 1), []byte{0x01}, true},
		{"two bytes", []int{1, 0, 0, 0, 0, 0, 0, 1, 0, 0, 0, 0, 1, 1, 1, 1}, []byte{0x81, 0x0F}, true},
		{"more than 32 bits", with(40, 39, 1), []byte{0, 0, 0, 0, 1}, true},
		{"two", with(8, 7, 2), nil, false},
		{"minus one", with(8, 0, -1), nil, false},
		{"a multiple of 2^8", with(8, 7, 256), nil, false},
		{"wrong in the second byte", with(16, 15, 2), nil, false},
		{"wrong and too short", with(7, 0, 2), nil, false},
	} {
		if got, ok := Join(c.l); ok != c.ok || !slices.Equal(got, c.want) {
			t.Errorf("%s: Join is %v, %v", c.name, got, ok)
		}
	}
}

// P1.1, A3
func TestJoinWrongLength(t *testing.T) {
	for many := range 50 {
		whole := many%8 == 0
		for _, l := range [][]int{make([]int, many), ones(many)} {
			got, ok := Join(l)
			if ok != whole {
				t.Errorf("Join of %d bits is %v, %v", many, got, ok)
			}
			if !ok && len(got) != 0 {
				t.Errorf("Join of %d bits is %v beside false", many, got)
			}
		}
	}
}

// P1.2
func TestGetOfPut(t *testing.T) {
	check := func(n, many int) {
		l, ok := Put(n, many)
		if !ok || len(l) != many || !Right(l) {
			t.Errorf("Put(%d, %d) is %v, %v", n, many, l, ok)
		}
		if got, ok := Get(l); !ok || got != n {
			t.Errorf("Get of Put(%d, %d) is %d, %v", n, many, got, ok)
		}
	}
	for many := range 11 {
		for n := range 1 << many {
			check(n, many)
		}
	}
	for many := range 33 {
		for at := range many {
			check(1<<at, many)
			check(1<<many-1-1<<at, many)
		}
	}
}

// P1.2
func TestPutOfGet(t *testing.T) {
	check := func(l []int) {
		n, ok := Get(l)
		if !ok {
			t.Errorf("Get(%v) is %d, %v", l, n, ok)
		}
		if got, ok := Put(n, len(l)); !ok || !slices.Equal(got, l) {
			t.Errorf("Put of Get(%v) is %v, %v", l, got, ok)
		}
	}
	for many := range 11 {
		for n, l := range sequences(many) {
			check(l)
			if got, _ := Get(l); got != n {
				t.Errorf("Get(%v) is %d", l, got)
			}
		}
	}
	for many := range 33 {
		check(ones(many))
		for at := range many {
			check(with(many, at, 1))
		}
	}
}

// P1.2
func TestJoinOfSpread(t *testing.T) {
	var all []byte
	for n := range 256 {
		one := []byte{byte(n)}
		if got, ok := Join(Spread(one)); !ok || !slices.Equal(got, one) {
			t.Errorf("Join of Spread(%v) is %v, %v", one, got, ok)
		}
		all = append(all, byte(n))
		if got, ok := Join(Spread(all)); !ok || !slices.Equal(got, all) {
			t.Errorf("Join of Spread of %d bytes is %v, %v", len(all), got, ok)
		}
	}
	if got, ok := Join(Spread(nil)); !ok || len(got) != 0 {
		t.Errorf("Join of Spread(nil) is %v, %v", got, ok)
	}
}

// P1.2
func TestSpreadOfJoin(t *testing.T) {
	check := func(l []int) {
		b, ok := Join(l)
		if !ok || len(b) != len(l)/8 {
			t.Errorf("Join(%v) is %v, %v", l, b, ok)
		}
		if got := Spread(b); !slices.Equal(got, l) {
			t.Errorf("Spread of Join(%v) is %v", l, got)
		}
	}
	check(nil)
	for _, l := range sequences(8) {
		check(l)
		check(slices.Concat(l, ones(8), l))
	}
	for at := range 80 {
		check(with(80, at, 1))
	}
}

// P3: arguments stay as they were, and what was answered does not change with them or with later calls
func TestNothingShared(t *testing.T) {
	l := []int{1, 0, 0, 0, 0, 0, 0, 1}
	b := []byte{0x81}
	bits, bytes := slices.Clone(l), slices.Clone(b)
	put, _ := Put(0x81, 8)
	spread := Spread(b)
	join, _ := Join(l)
	Right(l)
	Get(l)
	if !slices.Equal(l, bits) || !slices.Equal(b, bytes) {
		t.Error("an argument was changed", l, b)
	}
	l[0], b[0] = 0, 0
	Put(0, 8)
	Spread(b)
	Join(l)
	if !slices.Equal(put, bits) || !slices.Equal(spread, bits) || !slices.Equal(join, bytes) {
		t.Error("an answer was changed", put, spread, join)
	}
}
