package latch_test

import (
	"math/rand"
	"slices"
	"strings"
	"testing"

	"seneschal/api"
	"seneschal/latch"
)

// states is the chapter as a table: what becomes of a page by each call, and what is answered. A state is how the lock is had, how it is needed, and which call waits: '-' none, 's' shared, 'x' as an X, or of the X, 'a' of all. An answer: 'n' Nothing, 'g' LetGo, 's' Shares, 'l' Later; '!' ErrNone; 'k' of an End: Keep.
const states = `
from Grant GrantX Use   UseX  Call  CallAll End
---  s--   x--    ---!  ---!  ---n  ---n    ---
s--  s--   x--    ss-   s--!  s--n  ---g    s--
x--  s--   x--    xs-   xx-   s--s  ---g    x--
ss-  ss-   xs-    ss-   ss-!  ss-n  ssal    s--
xs-  ss-   xs-    xs-   xx-   ss-s  xsal    x--
ssa  ssa   xsa    ssa   ssa!  ssan  ssal    ---g
xsa  ssa   xsa    xsa   xxa   ssas  xsal    ---g
sx-  sx-   xx-    sx-   sx-!  sx-n  sxal    s--
xx-  sx-   xx-    xx-   xx-   xxxl  xxal    x--
sxx  sxx   xxx    sxx   sxx!  sxxn  sxal    s--k
xxx  sxx   xxx    xxx   xxx   xxxl  xxal    s--k
sxa  sxa   xxa    sxa   sxa!  sxan  sxal    ---g
xxa  sxa   xxa    xxa   xxa   xxal  xxal    ---g
`

// do does the call of a column of states, and tells the answer as there.
func do(l *latch.Locks, page, column int) string {
	switch column {
	case 1, 2:
		l.Grant(page, column == 2)
	case 3, 4:
		switch l.Use(page, column == 4) {
		case api.OK:
			return ""
		case api.ErrNone:
			return "!"
		}
		return "?"
	case 5, 6:
		return string("ngsl"[l.Call(page, column == 6)])
	case 7:
		return lets(l.End(), page)
	}
	return ""
}

func lets(list []api.Let, page int) string {
	switch {
	case len(list) == 0:
		return ""
	case len(list) > 1 || list[0].Page != page:
		return "?"
	case list[0].Keep:
		return "k"
	}
	return "g"
}

// state tells a page's state; the call that waits only an End brings to light.
func state(l *latch.Locks, page int) string {
	had := 0
	for _, x := range []bool{false, true} {
		if l.Has(page, x) {
			had++
		}
	}
	s := string("-sx"[had]) + string("-sx"[l.Used(page)])
	return s + map[string]string{"": "-", "k": "x", "g": "a"}[lets(l.End(), page)]
}

// Each call at each state that a page can come to, whatever is so of the page beside it.
func TestEachState(t *testing.T) {
	lines := strings.Split(strings.TrimSpace(states), "\n")
	table := map[string][]string{}
	for _, line := range lines[1:] {
		cells := strings.Fields(line)
		table[cells[0]] = cells
	}
	rows := map[string][]int{"---": {}}
	open := []string{"---"}
	for len(open) > 0 {
		from := open[0]
		open = open[1:]
		for column := 1; column <= 7; column++ {
			want := table[from][column]
			for beside := range 3 {
				l := latch.New()
				if beside > 0 {
					l.Grant(8, beside == 2)
				}
				for _, c := range rows[from] {
					do(l, 7, c)
				}
				answer := do(l, 7, column)
				if got := state(l, 7) + answer; got != want {
					t.Errorf("%s, %d: %s, wanted %s", from, column, got, want)
				}
				has(t, l, 8, beside)
			}
			if to := want[:3]; rows[to] == nil {
				rows[to] = append(slices.Clone(rows[from]), column)
				open = append(open, to)
			}
		}
	}
	if len(rows) != 13 || len(table) != 13 {
		t.Errorf("%d states of %d", len(rows), len(table))
	}
}

// plain reads the chapter plainly: all that ever happened on each page, a letter each: 'g' it has the lock shared from now on, 'G' as an X, 'o' no more, 'u' it needs it shared, 'U' as an X, 'w' a call of the X waits, 'W' one of all, '.' nothing is needed any more.
type plain map[int]string

func (m plain) had(page int) int {
	n := 0
	for _, what := range m[page] {
		switch what {
		case 'g':
			n = 1
		case 'G':
			n = 2
		case 'o':
			n = 0
		}
	}
	return n
}

// most: of a lesser and a greater letter, which happened in this transaction: 0, 1, 2.
func (m plain) most(page int, lesser, greater string) int {
	now := m[page][strings.LastIndex(m[page], ".")+1:]
	switch {
	case strings.Contains(now, greater):
		return 2
	case strings.Contains(now, lesser):
		return 1
	}
	return 0
}

func (m plain) needed(page int) int { return m.most(page, "u", "U") }

func (m plain) use(page int, x bool) api.Errno {
	switch had := m.had(page); {
	case had == 0 || had == 1 && x:
		return api.ErrNone
	case x:
		m[page] += "U"
	default:
		m[page] += "u"
	}
	return api.OK
}

func (m plain) call(page int, all bool) int {
	had, needed := m.had(page), m.needed(page)
	switch {
	case had == 0, !all && had == 1:
		return latch.Nothing
	case all && needed > 0:
		m[page] += "W"
		return latch.Later
	case all:
		m[page] += "o"
		return latch.LetGo
	case needed == 2:
		m[page] += "w"
		return latch.Later
	}
	m[page] += "g"
	return latch.Shares
}

func (m plain) end() []api.Let {
	var list []api.Let
	for _, page := range wild {
		switch m.most(page, "w", "W") {
		case 1:
			m[page] += "g"
			list = append(list, api.Let{Page: page, Keep: true})
		case 2:
			m[page] += "o"
			list = append(list, api.Let{Page: page})
		}
		m[page] += "."
	}
	return list
}

// Pages and calls by chance: what is answered is what the plain reading answers, and what is needed stays.
func TestByChance(t *testing.T) {
	r := rand.New(rand.NewSource(16))
	for range 150 {
		l, m := latch.New(), plain{}
		for range 400 {
			page, x := wild[r.Intn(len(wild))], r.Intn(2) == 0
			switch r.Intn(20) {
			case 0, 1, 2, 3, 4:
				l.Grant(page, x)
				m[page] += map[bool]string{false: "g", true: "G"}[x]
			case 5, 6, 7, 8, 9:
				uses(t, l, page, x, m.use(page, x))
			case 10:
				ends(t, l, m.end()...)
			case 11:
				if r.Intn(8) == 0 {
					l.Clear()
					for _, page := range wild {
						m[page] += ".o"
					}
				}
			default:
				calledByChance(t, l, m, page, x)
			}
			agree(t, l, m)
		}
	}
}

func calledByChance(t *testing.T, l *latch.Locks, m plain, page int, all bool) {
	t.Helper()
	needs, x := l.Used(page), l.Has(page, true)
	calls(t, l, page, all, m.call(page, all))
	used(t, l, page, needs)
	if needs > 0 && !l.Has(page, false) || needs > 1 && x && !l.Has(page, true) {
		t.Fatal("what is needed is had no more")
	}
}

func agree(t *testing.T, l *latch.Locks, m plain) {
	t.Helper()
	var list []int
	for _, page := range wild {
		had := m.had(page)
		has(t, l, page, had)
		used(t, l, page, m.needed(page))
		if had > 0 {
			list = append(list, page)
		}
	}
	pages(t, l, list...)
}
