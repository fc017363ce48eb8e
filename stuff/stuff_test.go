package stuff

import (
	"math"
	"math/rand"
	"slices"
	"strings"
	"testing"
)

// longest is the length up to which every sequence is tried.
const longest = 16

// row returns the bits that a text of digits and spaces has.
func row(text string) []int {
	l := []int{}
	for _, c := range strings.ReplaceAll(text, " ", "") {
		l = append(l, int(c-'0'))
	}
	return l
}

// every calls check with every sequence of up to longest bits.
func every(check func(l []int)) {
	for many := range longest + 1 {
		for n := range 1 << many {
			l := make([]int, many)
			for i := range l {
				l[i] = n >> i & 1
			}
			check(l)
		}
	}
}

// random calls check with long sequences in which long runs are frequent.
func random(seed int64, check func(l []int)) {
	r := rand.New(rand.NewSource(seed))
	for range 400 {
		l := make([]int, r.Intn(300))
		for i := range l {
			if i > 0 && r.Intn(5) > 0 {
				l[i] = l[i-1]
			} else {
				l[i] = r.Intn(2)
			}
		}
		check(l)
	}
	for _, bit := range []int{0, 1} {
		check(slices.Repeat([]int{bit}, 4096))
	}
	check(slices.Repeat([]int{0, 1}, 2048))
	check(slices.Repeat([]int{1, 1, 1, 1, 0, 0, 0, 0}, 512))
}

func everyAndRandom(seed int64, check func(l []int)) {
	every(check)
	random(seed, check)
}

// The chapter's C1 to C3, written out by looking back at the last bits instead of counting.

// alike reports whether l ends with five equal bits.
func alike(l []int) bool {
	if len(l) < 5 {
		return false
	}
	last := l[len(l)-5:]
	return slices.Min(last) == slices.Max(last)
}

func plainStuff(l []int) []int {
	var out []int
	for _, bit := range l {
		out = append(out, bit)
		if alike(out) {
			out = append(out, 1-bit)
		}
	}
	return out
}

func plainStrip(l []int) ([]int, int) {
	var out []int
	for at, bit := range l {
		switch {
		case !alike(l[:at]):
			out = append(out, bit)
		case bit == l[at-1]:
			return out, at
		}
	}
	if alike(l) {
		return out, len(l)
	}
	return out, -1
}

func plainRuns(l []int) int {
	most := 0
	for from := range l {
		for to := from + 1; to <= len(l) && slices.Min(l[from:to]) == slices.Max(l[from:to]); to++ {
			most = max(most, to-from)
		}
	}
	return most
}

// P3.1, C1
func TestStuff(t *testing.T) {
	for _, c := range []struct{ l, want string }{
		{"", ""},
		{"0", "0"},
		{"1", "1"},
		{"0000", "0000"},
		{"1111", "1111"},
		{"00000", "00000 1"},
		{"11111", "11111 0"},
		{"000000", "00000 1 0"},
		{"000001", "00000 1 1"},
		{"10000", "10000"},
		{"100000", "100000 1"},
		{"11111 00001", "11111 0 0000 1 1"},
		{"11111 000", "11111 0 000"},
		{"11111 0000", "11111 0 0000 1"},
		{"11111 0000 1111", "11111 0 0000 1 1111 0"},
		{"00000 00000", "00000 1 00000 1"},
		{"0101010101", "0101010101"},
		{"0000 1 0000 1 0000", "0000 1 0000 1 0000"},
	} {
		if got := Stuff(row(c.l)); !slices.Equal(got, row(c.want)) {
			t.Errorf("Stuff of %s is %v, not %s", c.l, got, c.want)
		}
	}
	if got := Stuff(nil); len(got) != 0 {
		t.Errorf("Stuff(nil) is %v", got)
	}
}

// P3.1, C2
func TestStrip(t *testing.T) {
	for _, c := range []struct {
		l, want string
		at      int
	}{
		{"", "", -1},
		{"0", "0", -1},
		{"0000", "0000", -1},
		{"0000 1111 0", "0000 1111 0", -1},
		{"00000 1", "00000", -1},
		{"11111 0", "11111", -1},
		{"00000 1 1", "00000 1", -1},
		{"00000 1 1111 0", "00000 1111", -1},
		{"00000 1 00000 1", "00000 00000", -1},
		{"100000 1 0", "100000 0", -1},

		{"00000", "00000", 5},
		{"11111", "11111", 5},
		{"100000", "100000", 6},
		{"00000 1 1111", "00000 1111", 10},
		{"00000 1 00000", "00000 00000", 11},

		{"000000", "00000", 5},
		{"111111", "11111", 5},
		{"0000001", "00000", 5},
		{"1000000", "100000", 6},
		{"00000 1 1111 1", "00000 1111", 10},
		{"00000 1 1111 10", "00000 1111", 10},
		{"00000 0 11111 1", "00000", 5},
		{"0000000000", "00000", 5},
	} {
		if got, at := Strip(row(c.l)); at != c.at || !slices.Equal(got, row(c.want)) {
			t.Errorf("Strip of %s is %v and %d, not %s and %d", c.l, got, at, c.want, c.at)
		}
	}
	if got, at := Strip(nil); len(got) != 0 || at != -1 {
		t.Errorf("Strip(nil) is %v and %d", got, at)
	}
}

// P3.1, C3
func TestRuns(t *testing.T) {
	for _, c := range []struct {
		l    string
		want int
	}{
		{"", 0},
		{"0", 1},
		{"1", 1},
		{"01", 1},
		{"0101", 1},
		{"1 00 111", 3},
		{"111 00 1", 3},
		{"1 000 11", 3},
		{"000000", 6},
		{"111111", 6},
		{"0 1111111 0", 7},
		{"0000 1111", 4},
	} {
		if got := Runs(row(c.l)); got != c.want {
			t.Errorf("Runs of %s is %d, not %d", c.l, got, c.want)
		}
	}
	if got := Runs(nil); got != 0 {
		t.Errorf("Runs(nil) is %d", got)
	}
	if got := Runs(make([]int, 4096)); got != 4096 {
		t.Errorf("Runs of 4096 zeros is %d", got)
	}
}

// P3.1, C1 to C3
func TestAgainstPlain(t *testing.T) {
	stuffAndStrip := func(l []int) {
		if got, want := Stuff(l), plainStuff(l); !slices.Equal(got, want) {
			t.Fatalf("Stuff of %v is %v, not %v", l, got, want)
		}
		got, at := Strip(l)
		want, wantAt := plainStrip(l)
		if at != wantAt || !slices.Equal(got, want) {
			t.Fatalf("Strip of %v is %v and %d, not %v and %d", l, got, at, want, wantAt)
		}
	}
	everyAndRandom(1, stuffAndStrip)
	every(func(l []int) {
		if got, want := Runs(l), plainRuns(l); got != want {
			t.Fatalf("Runs of %v is %d, not %d", l, got, want)
		}
	})
}

// P3.2
func TestBack(t *testing.T) {
	everyAndRandom(2, func(l []int) {
		if got, at := Strip(Stuff(l)); at != -1 || !slices.Equal(got, l) {
			t.Fatalf("%v, stuffed and stripped, is %v and %d", l, got, at)
		}
		if got, at := Strip(l); at == -1 && !slices.Equal(Stuff(got), l) {
			t.Fatalf("%v, stripped and stuffed, is %v", l, Stuff(got))
		}
	})
}

// P3.2: of a stuffed sequence with a changed bit, what is stripped with no fault is stuffed to the same
func TestBackAfterChange(t *testing.T) {
	random(3, func(l []int) {
		s := Stuff(l)
		for i := range min(len(s), 200) {
			changed := slices.Clone(s)
			changed[i] = 1 - changed[i]
			if got, at := Strip(changed); at == -1 && !slices.Equal(Stuff(got), changed) {
				t.Fatalf("%v, stripped and stuffed, is %v", changed, Stuff(got))
			}
		}
	})
}

// P3.3: with no bits there is none to insert, though (0 - 1) / 4 rounded down is less than 0
func TestInserted(t *testing.T) {
	most := map[int]int{}
	everyAndRandom(4, func(l []int) {
		s := Stuff(l)
		if Runs(s) > 5 {
			t.Fatalf("Stuff of %v has a run of %d bits", l, Runs(s))
		}
		inserted, bound := len(s)-len(l), max(len(l)-1, 0)/4
		if inserted < 0 || inserted > bound {
			t.Fatalf("Stuff of %v inserts %d bits", l, inserted)
		}
		most[len(l)] = max(most[len(l)], inserted)
	})
	for n := 1; n <= longest; n++ {
		if most[n] != (n-1)/4 {
			t.Errorf("at most %d bits are inserted into %d, not %d", most[n], n, (n-1)/4)
		}
	}
}

// P3.4
func TestPrefix(t *testing.T) {
	everyAndRandom(5, func(l []int) {
		s := Stuff(l)
		for to := range min(len(l), 300) {
			part := Stuff(l[:to])
			if len(part) > len(s) || !slices.Equal(part, s[:len(part)]) {
				t.Fatalf("Stuff of the first %d of %v is %v", to, l, part)
			}
		}
	})
}

func opposites(l []int) []int {
	out := make([]int, len(l))
	for i, bit := range l {
		out[i] = 1 - bit
	}
	return out
}

// P3.4
func TestOpposite(t *testing.T) {
	everyAndRandom(6, func(l []int) {
		if got, want := Stuff(opposites(l)), opposites(Stuff(l)); !slices.Equal(got, want) {
			t.Fatalf("Stuff of the opposite of %v is %v, not %v", l, got, want)
		}
	})
}

// P1: numbers that are no bits end no call by a panic
func TestOtherNumbers(t *testing.T) {
	for _, n := range []int{2, -1, math.MaxInt, math.MinInt} {
		for many := range 14 {
			l := slices.Repeat([]int{n}, many)
			Stuff(l)
			Strip(l)
			Runs(l)
		}
	}
}

// P3: arguments stay as they were, nothing is kept between calls, and results share no memory with arguments
func TestNothingKept(t *testing.T) {
	for _, text := range []string{"0101", "00000", "11111 0 1", "000000 1"} {
		l := row(text)
		stuffed, runs := plainStuff(l), plainRuns(l)
		stripped, fault := plainStrip(l)
		for range 3 {
			s := Stuff(l)
			o, at := Strip(l)
			if !slices.Equal(s, stuffed) || !slices.Equal(o, stripped) || at != fault || Runs(l) != runs {
				t.Errorf("of %s, a repeated call answers otherwise", text)
			}
			for _, result := range [][]int{s, o} {
				for i := range result {
					result[i] = 7
				}
			}
		}
		if !slices.Equal(l, row(text)) {
			t.Errorf("%s was changed to %v", text, l)
		}
	}
}
