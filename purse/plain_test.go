package purse_test

import (
	"math"
	"math/rand"
	"slices"
	"testing"

	"seneschal/purse"
)

// pair is what a going over a purse yields.
type pair[K any] struct {
	who K
	n   int
}

// plain reads the chapter plainly: all that was ever promised, and, below 0, all that was taken.
type plain []pair[int]

func (m plain) of(who int) int {
	n := 0
	for _, x := range m {
		if x.who == who {
			n += x.n
		}
	}
	return n
}

func (m plain) sum() int {
	n := 0
	for _, x := range m {
		n += x.n
	}
	return n
}

// all is a list, by putting each in its place ahead of those that are above it.
func (m plain) all() []pair[int] {
	var list []pair[int]
	for _, x := range m {
		at := 0
		for at < len(list) && list[at].who < x.who {
			at++
		}
		if n := m.of(x.who); n > 0 && (at == len(list) || list[at].who != x.who) {
			list = slices.Insert(list, at, pair[int]{x.who, n})
		}
	}
	return list
}

func (m *plain) ask(who, n, room int) bool {
	if n < 1 || n > 1048576 || room < 0 || uint64(m.sum())+uint64(n) > uint64(room) {
		return false
	}
	*m = append(*m, pair[int]{who, n})
	return true
}

func (m *plain) take(who, n int) int {
	if n < 1 {
		return 0
	}
	if has := m.of(who); n > has {
		n = has
	}
	*m = append(*m, pair[int]{who, -n})
	return n
}

// op is a call: an Ask, or a Take.
type op struct {
	take         bool
	who, n, room int
}

// side is a purse, its plain reading, and the room of the last Ask that was true.
type side struct {
	p    *purse.Purse[int]
	m    plain
	room int
}

func newSide() *side {
	return &side{p: purse.New[int]()}
}

// do does a call to both, and holds the answers against each other.
func (s *side) do(t *testing.T, o op) {
	t.Helper()
	if o.take {
		if got, want := s.p.Take(o.who, o.n), s.m.take(o.who, o.n); got != want {
			t.Fatalf("%+v: %d, wanted %d; %v", o, got, want, s.m)
		}
		return
	}
	got, want := s.p.Ask(o.who, o.n, o.room), s.m.ask(o.who, o.n, o.room)
	if got != want {
		t.Fatalf("%+v: %t, wanted %t; %v", o, got, want, s.m)
	}
	if got {
		s.room = o.room
	}
}

// agree: the purse tells what its plain reading tells, of these, too; and what is promised is there (P10.3).
func (s *side) agree(t *testing.T, whos ...int) {
	t.Helper()
	want := s.m.all()
	if got := all(s.p); !slices.Equal(got, want) {
		t.Fatalf("All: %v, wanted %v", got, want)
	}
	sum := 0
	for _, x := range want {
		sum += x.n
		whos = append(whos, x.who)
	}
	if s.p.Sum() != sum || sum > s.room {
		t.Fatalf("Sum: %d, wanted %d, in a room of %d", s.p.Sum(), sum, s.room)
	}
	for _, who := range whos {
		if s.p.Of(who) != s.m.of(who) {
			t.Fatalf("Of(%d): %d, wanted %d", who, s.p.Of(who), s.m.of(who))
		}
	}
}

// Each row of so many calls, in small rooms.
func TestEachRow(t *testing.T) {
	var ops []op
	for who := range 2 {
		for n := range 4 {
			ops = append(ops, op{take: true, who: who, n: n})
		}
		for n := range 3 {
			for room := 2; room <= 4; room++ {
				ops = append(ops, op{who: who, n: n, room: room})
			}
		}
	}
	var row [4]op
	var lay func(k int)
	lay = func(k int) {
		if k == len(row) {
			s := newSide()
			for _, o := range row {
				s.do(t, o)
			}
			s.agree(t, 0, 1, 2)
			return
		}
		for _, row[k] = range ops {
			lay(k + 1)
		}
	}
	lay(0)
}

// Many at once, all kinds of numbers.
func TestByChance(t *testing.T) {
	rnd := rand.New(rand.NewSource(10))
	for range 300 {
		s := newSide()
		whos := 1 + rnd.Intn(40)
		wide := 1 + rnd.Intn(1<<uint(1+rnd.Intn(20)))
		takes := rnd.Intn(4)
		for range 200 {
			o := op{take: rnd.Intn(4) < takes, who: rnd.Intn(whos) - whos/2, n: amount(rnd, wide)}
			o.room = rooms(rnd, s.m.sum(), o.n)
			s.do(t, o)
			s.agree(t, o.who, rnd.Int())
		}
	}
}

// amount is mostly from 1 to wide, else at an edge.
func amount(rnd *rand.Rand, wide int) int {
	edges := []int{math.MinInt, -wide, -1, 0, 1, 1<<20 - 1, 1 << 20, 1<<20 + 1, 1 << 32, math.MaxInt}
	if rnd.Intn(5) == 0 {
		return edges[rnd.Intn(len(edges))]
	}
	return 1 + rnd.Intn(wide)
}

// rooms is mostly just enough for sum and n together, or just not.
func rooms(rnd *rand.Rand, sum, n int) int {
	edges := []int{math.MinInt, -1, 0, n, sum, sum - n, math.MaxInt}
	if rnd.Intn(5) == 0 {
		return edges[rnd.Intn(len(edges))]
	}
	return sum + n + rnd.Intn(4) - 1
}

// P10.3: whatever is done, each takes all that it is promised, in any order, and that is no more than the room was.
func TestWhatIsPromisedIsThere(t *testing.T) {
	rnd := rand.New(rand.NewSource(103))
	for range 500 {
		p := purse.New[int]()
		last := 0
		for range rnd.Intn(60) {
			who, n, room := rnd.Intn(8), rnd.Intn(20), rnd.Intn(60)
			if rnd.Intn(3) == 0 {
				p.Take(who, n)
			} else if p.Ask(who, n, room) {
				last = room
			}
		}
		left := last
		for _, who := range rnd.Perm(8) {
			n := p.Of(who)
			if got := p.Take(who, n); got != n || p.Of(who) != 0 {
				t.Fatal(who, n, got)
			}
			left -= n
		}
		if left < 0 || p.Sum() != 0 {
			t.Fatal(last, left, p.Sum())
		}
	}
}
