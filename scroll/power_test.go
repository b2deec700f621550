package scroll_test

import (
	"math/rand"
	"slices"
	"testing"

	"seneschal/api"
	"seneschal/plate"
	"seneschal/scroll"
)

// P7.5

// fatesOf are all fates that so many writes can have.
func fatesOf(writes int) [][]int {
	all := [][]int{nil}
	for range writes {
		var more [][]int
		for _, fates := range all {
			for fate := range 3 {
				more = append(more, append(slices.Clone(fates), fate))
			}
		}
		all = more
	}
	return all
}

// cuts calls with each way in which the power can go in the forcing of a batch of so many sectors: in which act, and what becomes of what waited.
func cuts(sectors int, yield func(act int, fates []int)) {
	for act := 1; act <= sectors+1; act++ {
		for _, fates := range fatesOf(min(act, sectors)) {
			yield(act, fates)
		}
	}
}

// whole: the batch is there behind that.
func whole(sectors, act int, fates []int) bool {
	return act >= sectors && !slices.Contains(fates, 0) && !slices.Contains(fates, 2)
}

// crash lets the power go in an act of the forcing of a list.
func crash(t *testing.T, s site, l *scroll.Log, list []api.Entry, act int, fates []int) {
	t.Helper()
	for _, x := range list {
		if _, e := l.Append(x); e != 0 {
			t.Fatal(e)
		}
	}
	s.d.Arm(act)
	last, sure, room := l.Last(), l.Sure(), l.Room()
	code(t, "Force", l.Force(), 10)
	if l.Last() != last || l.Sure() != sure || l.Room() != room {
		t.Error("a Force that met ErrDown has changed the log")
	}
	s.d.On(fates)
}

// Twice the power goes, in any act, with any fates; the second time over what the first one left.
func TestEveryAct(t *testing.T) {
	base := filled(1, 300)
	for first := 1; first <= 3; first++ {
		cuts(first, func(act int, fates []int) {
			for second := 1; second <= 3; second++ {
				cuts(second, func(act2 int, fates2 []int) {
					s := site{plate.New(17), 1, 16}
					m := api.Mark{At: 15, First: 4, Gen: 1}
					l := s.open(t, m, nil)
					add(t, l, base)
					want := slices.Clone(base)
					for k, c := range []struct {
						sectors, act int
						fates        []int
					}{{first, act, fates}, {second, act2, fates2}} {
						list := filled(10+10*k, c.sectors*232-50)
						crash(t, s, l, list, c.act, c.fates)
						if whole(c.sectors, c.act, c.fates) {
							want = append(want, list...)
						}
						m.Gen++
						l = s.open(t, m, want)
					}
					list := filled(40, 232*(1+act%3))
					add(t, l, list)
					m.Gen++
					s.open(t, m, append(want, list...))
				})
			}
		})
	}
}

// The log goes round and round, is cut, and the power goes, again and again.
func TestPowerByChance(t *testing.T) {
	r := rand.New(rand.NewSource(5))
	kept, lost := 0, 0
	for trial := range 60 {
		s := site{from: r.Intn(3), count: 16 + r.Intn(5)}
		s.d = plate.New(s.from + s.count)
		m := &plain{at: r.Intn(40), first: 1 + r.Intn(40), gen: 1, count: s.count}
		l := s.open(t, api.Mark{At: m.at, First: m.first, Gen: m.gen}, nil)
		for step := range 200 {
			if s.d.Down() {
				t.Fatal("down")
			}
			for range r.Intn(4) {
				x := sized(trial+step, 12+r.Intn(380))
				want, e := m.append(x)
				if n, e2 := l.Append(x); n != want || e2 != e {
					t.Fatalf("Append: %d, %d, wanted %d, %d", n, e2, want, e)
				}
			}
			if m.left() < 9 {
				x, _ := l.Mark(m.first+r.Intn(len(m.sure())+1), m.gen)
				code(t, "Cut", l.Cut(x), m.cut(x))
			}
			if r.Intn(3) > 0 {
				code(t, "Force", l.Force(), 0)
				m.force()
				agree(t, l, m)
				continue
			}
			goes(t, r, s, l, m, &kept, &lost)
			l = s.open(t, api.Mark{At: m.at, First: m.first, Gen: m.gen}, m.sure())
		}
	}
	if kept < 100 || lost < 100 {
		t.Error("too few batches that were kept, or lost", kept, lost)
	}
}

// goes lets the power go in a Force, or ahead of it, and tells the plain log what must be left.
func goes(t *testing.T, r *rand.Rand, s site, l *scroll.Log, m *plain, kept, lost *int) {
	t.Helper()
	sectors := sectorsOf(m.waiting)
	act := r.Intn(sectors + 2)
	if sectors == 0 || act == 0 {
		s.d.Off()
	} else {
		s.d.Arm(act)
	}
	code(t, "Force", l.Force(), 10)
	fates := make([]int, max(sectors, 1))
	for i := range fates {
		fates[i] = max(1, r.Intn(8)-5)
		if r.Intn(8) == 0 {
			fates[i] = 0
		}
	}
	writes := s.d.Waits()
	s.d.On(fates)
	if sectors > 0 && act > 0 && whole(sectors, act, fates[:min(len(fates), writes)]) {
		m.force()
		*kept++
	} else {
		m.waiting = nil
		*lost++
	}
	m.gen++
}

// An elder round's sectors are told from the new one's, with the same generation, too.
func TestRounds(t *testing.T) {
	s := site{plate.New(16), 0, 16}
	m := api.Mark{First: 1, Gen: 1}
	l := s.open(t, m, nil)
	for k := range 200 {
		list := filled(k, 100+k%5*232)
		add(t, l, list)
		e := api.OK
		if m, e = l.Mark(l.Sure()-len(list)+1, 1); e != 0 || m.First != l.Last()-len(list)+1 {
			t.Fatal(m, e)
		}
		code(t, "Cut", l.Cut(m), 0)
		s.open(t, m, list)
		s.open(t, api.Mark{At: m.At + sectorsOf(list), First: 1, Gen: 1}, nil)
	}
}
