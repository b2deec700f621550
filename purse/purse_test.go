package purse_test

import (
	"cmp"
	"math"
	"slices"
	"testing"

	"seneschal/purse"
)

func all[K cmp.Ordered](p *purse.Purse[K]) []pair[K] {
	var list []pair[K]
	for who, n := range p.All() {
		list = append(list, pair[K]{who, n})
	}
	return list
}

// has: what is promised, to whom, and nothing else.
func has(t *testing.T, p *purse.Purse[string], want ...pair[string]) {
	t.Helper()
	sum := 0
	for _, x := range want {
		if n := p.Of(x.who); n != x.n {
			t.Errorf("Of(%q): %d, wanted %d", x.who, n, x.n)
		}
		sum += x.n
	}
	if got := all(p); !slices.Equal(got, want) {
		t.Errorf("All: %v, wanted %v", got, want)
	}
	if p.Sum() != sum {
		t.Errorf("Sum: %d, wanted %d", p.Sum(), sum)
	}
}

// letters is a purse in which these are promised 1, 2, 3.. one behind the other.
func letters(t *testing.T, list string) *purse.Purse[string] {
	t.Helper()
	p := purse.New[string]()
	for i, x := range list {
		asks(t, p, string(x), i+1, math.MaxInt, true)
	}
	return p
}

func asks[K cmp.Ordered](t *testing.T, p *purse.Purse[K], who K, n, room int, want bool) {
	t.Helper()
	if ok := p.Ask(who, n, room); ok != want {
		t.Fatalf("Ask(%v, %d, %d): %t", who, n, room, ok)
	}
}

func takes[K cmp.Ordered](t *testing.T, p *purse.Purse[K], who K, n, want int) {
	t.Helper()
	if got := p.Take(who, n); got != want {
		t.Fatalf("Take(%v, %d): %d, wanted %d", who, n, got, want)
	}
}

// P10.1

func TestExample(t *testing.T) {
	p := purse.New[int]()
	asks(t, p, 1, 5, 8, true)
	asks(t, p, 2, 4, 8, false)
	takes(t, p, 1, 3, 3)
	asks(t, p, 2, 4, 8, true)
	takes(t, p, 1, 9, 2)
	if list := all(p); !slices.Equal(list, []pair[int]{{2, 4}}) {
		t.Error(list)
	}
}

func TestNew(t *testing.T) {
	p := purse.New[string]()
	if p == nil {
		t.Fatal("no purse")
	}
	has(t, p)
	if p.Of("") != 0 || p.Of("a") != 0 {
		t.Error(p.Of(""), p.Of("a"))
	}
	takes(t, p, "", 1, 0)
	has(t, p)
}

func TestPursesApart(t *testing.T) {
	p, q := purse.New[string](), purse.New[string]()
	asks(t, p, "a", 3, 3, true)
	has(t, q)
	asks(t, q, "a", 2, 3, true)
	asks(t, q, "b", 1, 3, true)
	takes(t, q, "a", 2, 2)
	has(t, p, pair[string]{"a", 3})
	has(t, q, pair[string]{"b", 1})
}

func TestNil(t *testing.T) {
	var p *purse.Purse[string]
	for _, n := range []int{math.MinInt, -1, 0, 1, 1 << 20, math.MaxInt} {
		for _, room := range []int{math.MinInt, 0, 1, math.MaxInt} {
			asks(t, p, "a", n, room, false)
		}
		takes(t, p, "a", n, 0)
	}
	has(t, p)
	if p.Of("a") != 0 {
		t.Error(p.Of("a"))
	}
	p.All()(func(string, int) bool {
		t.Error("a nil purse yields")
		return false
	})
}

// How much can be asked for at once, in any room.
func TestAskHowMuch(t *testing.T) {
	for _, c := range []struct {
		n    int
		want bool
	}{
		{math.MinInt, false}, {-1 << 32, false}, {-1 << 20, false}, {-1, false}, {0, false},
		{1, true}, {2, true}, {1<<20 - 1, true}, {1 << 20, true},
		{1<<20 + 1, false}, {1 << 21, false}, {1 << 32, false}, {1<<32 + 1, false}, {math.MaxInt, false},
	} {
		p := letters(t, "b")
		asks(t, p, "a", c.n, math.MaxInt, c.want)
		if c.want {
			has(t, p, pair[string]{"a", c.n}, pair[string]{"b", 1})
			continue
		}
		has(t, p, pair[string]{"b", 1})
		asks(t, p, "b", c.n, math.MaxInt, false)
		has(t, p, pair[string]{"b", 1})
	}
}

// One is promised more than can be asked for at once, one after the other.
func TestAskAgain(t *testing.T) {
	p := purse.New[string]()
	for i := range 5000 {
		asks(t, p, "a", 1<<20, (i+1)<<20-1, false)
		asks(t, p, "a", 1<<20, (i+1)<<20, true)
	}
	has(t, p, pair[string]{"a", 5000 << 20})
	takes(t, p, "a", 4999<<20, 4999<<20)
	has(t, p, pair[string]{"a", 1 << 20})
}

// The room bounds what all are promised together, whoever asks.
func TestAskInRoom(t *testing.T) {
	for _, c := range []struct {
		n, room int
		want    bool
	}{
		{1, 7, true}, {1, 6, false}, {1, 5, false}, {1, 1, false}, {1, 0, false}, {1, -1, false},
		{4, 10, true}, {4, 9, false}, {4, 4, false}, {4, 6, false}, {5, 10, false}, {3, 10, true},
		{1, math.MinInt, false}, {6, math.MinInt, false}, {7, math.MinInt + 6, false}, {1 << 20, math.MinInt, false}, {1 << 20, math.MinInt + 1<<20, false},
		{1, math.MinInt + 1, false}, {1, -7, false}, {1, math.MaxInt, true}, {1 << 20, 1<<20 + 6, true}, {1 << 20, 1<<20 + 5, false}, {1 << 20, 1 << 20, false},
	} {
		for _, who := range []string{"", "a", "b", "c", "d"} {
			p := letters(t, "abc")
			asks(t, p, who, c.n, c.room, c.want)
			want := map[string]int{"a": 1, "b": 2, "c": 3}
			if c.want {
				want[who] += c.n
			}
			for _, x := range []string{"", "a", "b", "c", "d"} {
				if p.Of(x) != want[x] {
					t.Errorf("%+v %q: Of(%q) is %d", c, who, x, p.Of(x))
				}
			}
			if c.want && p.Sum() != 6+c.n || !c.want && p.Sum() != 6 {
				t.Errorf("%+v %q: Sum is %d", c, who, p.Sum())
			}
		}
	}
}

// A room that isn't what it was: less than what is promised, then more again.
func TestRoomOfEachAsk(t *testing.T) {
	p := letters(t, "ab")
	asks(t, p, "a", 1, 2, false)
	has(t, p, pair[string]{"a", 1}, pair[string]{"b", 2})
	asks(t, p, "a", 1, 4, true)
	asks(t, p, "b", 1, 4, false)
	asks(t, p, "b", 1, 5, true)
	takes(t, p, "a", 2, 2)
	asks(t, p, "c", 2, 5, true)
	asks(t, p, "c", 1, 5, false)
	has(t, p, pair[string]{"b", 3}, pair[string]{"c", 2})
}

// An Ask that is refused promises nothing, and makes nobody known.
func TestRefusedAsk(t *testing.T) {
	p := purse.New[string]()
	asks(t, p, "a", 1, 0, false)
	asks(t, p, "a", 0, 9, false)
	asks(t, p, "a", -1, 9, false)
	asks(t, p, "a", 1<<20+1, math.MaxInt, false)
	has(t, p)
	takes(t, p, "a", 1, 0)
	asks(t, p, "b", 9, 9, true)
	has(t, p, pair[string]{"b", 9})
}

func TestTake(t *testing.T) {
	for _, c := range []struct{ n, want int }{
		{math.MinInt, 0}, {-1 << 32, 0}, {-5, 0}, {-1, 0}, {0, 0}, {1, 1}, {2, 2}, {4, 4}, {5, 5},
		{6, 5}, {10, 5}, {1<<20 + 1, 5}, {1 << 32, 5}, {math.MaxInt, 5},
	} {
		p := letters(t, "ac")
		asks(t, p, "b", 5, 99, true)
		takes(t, p, "b", c.n, c.want)
		if c.want == 5 {
			has(t, p, pair[string]{"a", 1}, pair[string]{"c", 2})
			takes(t, p, "b", 1, 0)
			has(t, p, pair[string]{"a", 1}, pair[string]{"c", 2})
		} else {
			has(t, p, pair[string]{"a", 1}, pair[string]{"b", 5 - c.want}, pair[string]{"c", 2})
		}
		if p.Of("b") != 5-c.want {
			t.Error(c, p.Of("b"))
		}
	}
}

// Nothing is taken of whom nothing was promised, nor of another one.
func TestTakeOfNobody(t *testing.T) {
	p := letters(t, "bd")
	for _, who := range []string{"", "a", "c", "e", "b\x00", "B"} {
		takes(t, p, who, 1, 0)
		takes(t, p, who, math.MaxInt, 0)
		takes(t, p, who, -1, 0)
		has(t, p, pair[string]{"b", 1}, pair[string]{"d", 2})
	}
}

// What was taken can be promised again.
func TestTakeGivesRoom(t *testing.T) {
	p := purse.New[string]()
	asks(t, p, "a", 10, 10, true)
	takes(t, p, "a", 4, 4)
	asks(t, p, "b", 5, 10, false)
	asks(t, p, "b", 4, 10, true)
	takes(t, p, "a", 99, 6)
	asks(t, p, "c", 7, 10, false)
	asks(t, p, "a", 6, 10, true)
	has(t, p, pair[string]{"a", 6}, pair[string]{"b", 4})
}

// P10.2

func TestOf(t *testing.T) {
	p := letters(t, "bdf")
	for who, want := range map[string]int{"": 0, "a": 0, "b": 1, "c": 0, "d": 2, "e": 0, "f": 3, "g": 0, "bd": 0, "D": 0} {
		if p.Of(who) != want {
			t.Errorf("Of(%q): %d, wanted %d", who, p.Of(who), want)
		}
	}
	has(t, p, pair[string]{"b", 1}, pair[string]{"d", 2}, pair[string]{"f", 3}) // who was asked about isn't told
}

// Rising, in whatever order they came.
func TestAllRises(t *testing.T) {
	for _, order := range []string{"abcd", "dcba", "badc", "cadb", "bdac", "dabc"} {
		p := purse.New[string]()
		for i := range len(order) {
			asks(t, p, order[i:i+1], int(order[i]), 999, true)
		}
		has(t, p, pair[string]{"a", 97}, pair[string]{"b", 98}, pair[string]{"c", 99}, pair[string]{"d", 100})
		takes(t, p, order[:1], 999, int(order[0]))
		takes(t, p, order[2:3], 1, 1)
		asks(t, p, order[:1], 7, 999, true)
		var want []pair[string]
		for _, who := range []string{"a", "b", "c", "d"} {
			n := int(who[0])
			switch who {
			case order[:1]:
				n = 7
			case order[2:3]:
				n--
			}
			want = append(want, pair[string]{who, n})
		}
		has(t, p, want...)
	}
}

func TestAllStops(t *testing.T) {
	p := letters(t, "abcd")
	for stop := 1; stop <= 4; stop++ {
		n := 0
		for who, m := range p.All() {
			if n++; m != n || who != string(rune('a'+n-1)) {
				t.Error(who, m, n)
			}
			if n == stop {
				break
			}
		}
		if n != stop {
			t.Error(n, stop)
		}
	}
	p.All()(func(string, int) bool { return false })
	has(t, p, pair[string]{"a", 1}, pair[string]{"b", 2}, pair[string]{"c", 3}, pair[string]{"d", 4})
}

// An iterator can be gone over again, and tells what is so then.
func TestAllAgain(t *testing.T) {
	p := purse.New[string]()
	seq := p.All()
	gone := func(want ...pair[string]) {
		t.Helper()
		var list []pair[string]
		for who, n := range seq {
			list = append(list, pair[string]{who, n})
		}
		if !slices.Equal(list, want) {
			t.Error(list, "wanted", want)
		}
	}
	gone()
	p.Ask("b", 1, 9)
	p.Ask("a", 2, 9)
	gone(pair[string]{"a", 2}, pair[string]{"b", 1})
	gone(pair[string]{"a", 2}, pair[string]{"b", 1})
	p.Take("a", 2)
	p.Ask("b", 3, 9)
	gone(pair[string]{"b", 4})
	p.Take("b", 4)
	gone()
}

// A going tells what was promised when it began, whatever is done meanwhile.
func TestAllAsItBegan(t *testing.T) {
	p := letters(t, "bcde")
	seq := p.All()
	var told []pair[string]
	for who, n := range seq {
		told = append(told, pair[string]{who, n})
		switch who {
		case "b":
			p.Ask("a", 5, 99)
			p.Ask("c", 6, 99)
			p.Take("d", 99)
			p.Ask("dd", 7, 99)
		case "c":
			p.Take("b", 99)
			p.Take("e", 1)
		case "e":
			p.Ask("f", 8, 99)
		}
	}
	if !slices.Equal(told, []pair[string]{{"b", 1}, {"c", 2}, {"d", 3}, {"e", 4}}) {
		t.Error(told)
	}
	has(t, p, pair[string]{"a", 5}, pair[string]{"c", 8}, pair[string]{"dd", 7}, pair[string]{"e", 3}, pair[string]{"f", 8})
	rows := ""
	for who := range seq {
		p.Take(who, 99)
		for inner := range seq {
			rows += inner
		}
		rows += "."
	}
	if rows != "cddef.ddef.ef.f.." {
		t.Error(rows)
	}
	has(t, p)
}

// Many, in an order that leaps.
func TestMany(t *testing.T) {
	const many = 5003
	p := purse.New[int]()
	for i := range many {
		asks(t, p, i*2477%many, i+1, math.MaxInt, true)
	}
	if p.Sum() != many*(many+1)/2 {
		t.Error(p.Sum())
	}
	next := 0
	for who, n := range p.All() {
		if who != next || (n-1)*2477%many != who || p.Of(who) != n {
			t.Fatal(who, n, next, p.Of(who))
		}
		next++
	}
	if next != many {
		t.Error(next)
	}
	for i := range many {
		takes(t, p, i*2477%many, math.MaxInt, i+1)
	}
	if p.Sum() != 0 || len(all(p)) != 0 {
		t.Error(p.Sum())
	}
}

// The ways of keys

type ordinal uint8

type name string

func TestKeys(t *testing.T) {
	keys(t, math.MinInt, -1, 0, 1, math.MaxInt)
	keys[int8](t, -128, -1, 0, 127)
	keys[uint64](t, 0, 1, 1<<63-1, 1<<63, math.MaxUint64)
	keys[uintptr](t, 0, 1, 1<<32)
	keys[ordinal](t, 0, 7, 255)
	keys(t, "", "\x00", "A", "Z", "a", "a\x00", "aa", "b", "\xff", "\xff\xff")
	keys[name](t, "", "ä", "ö")
	keys(t, math.Inf(-1), -math.MaxFloat64, -0.5, 0, math.SmallestNonzeroFloat64, 0.5, math.Inf(1))
	keys[float32](t, -1, 0, 1)
}

// keys: those that are handed in rise; each is somebody of its own.
func keys[K cmp.Ordered](t *testing.T, list ...K) {
	t.Helper()
	p := purse.New[K]()
	var want []pair[K]
	for i := range list {
		want = append(want, pair[K]{list[i], i + 1})
	}
	for i := len(list) - 1; i >= 0; i-- {
		asks(t, p, list[i], i+1, math.MaxInt, true)
	}
	if got := all(p); !slices.Equal(got, want) {
		t.Errorf("%v, wanted %v", got, want)
	}
	for i, who := range list {
		if p.Of(who) != i+1 {
			t.Errorf("Of(%v): %d, wanted %d", who, p.Of(who), i+1)
		}
		takes(t, p, who, math.MaxInt, i+1)
		if got := all(p); !slices.Equal(got, want[i+1:]) {
			t.Errorf("%v, wanted %v", got, want[i+1:])
		}
	}
}

// 0 and -0 are equal, so they are one; a NaN is somebody, too, below all others as cmp has it: what it is promised is told and can be taken.
func TestFloats(t *testing.T) {
	p := purse.New[float64]()
	nan, minus := math.NaN(), math.Copysign(0, -1)
	asks(t, p, 0, 2, 9, true)
	asks(t, p, minus, 1, 9, true)
	if p.Of(0) != 3 || p.Of(minus) != 3 || len(all(p)) != 1 {
		t.Error(p.Of(0), p.Of(minus), all(p))
	}
	asks(t, p, math.Inf(-1), 1, 9, true)
	asks(t, p, nan, 3, 9, true)
	asks(t, p, nan, 3, 9, false)
	asks(t, p, nan, 2, 9, true)
	if p.Of(nan) != 5 || p.Sum() != 9 {
		t.Error(p.Of(nan), p.Sum())
	}
	list := all(p)
	if len(list) != 3 || !math.IsNaN(list[0].who) || list[0].n != 5 || list[1] != (pair[float64]{math.Inf(-1), 1}) || list[2].n != 3 {
		t.Error(list)
	}
	takes(t, p, nan, 4, 4)
	takes(t, p, nan, 4, 1)
	takes(t, p, minus, 9, 3)
	if list := all(p); p.Sum() != 1 || len(list) != 1 {
		t.Error(p.Sum(), list)
	}
}
