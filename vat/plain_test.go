package vat_test

import (
	"math/rand"
	"slices"
	"strings"
	"testing"

	"seneschal/api"
	"seneschal/entry"
	"seneschal/mend"
	"seneschal/past"
	"seneschal/patch"
	"seneschal/plate"
	"seneschal/vat"
)

// plain is the chapter read plainly: the log's entries, of which everything else is told anew each time. All pages are at hand, so that a batch is just what waited when it was forced.
type plain struct {
	conf  api.Config
	base  []api.Page // of the pages a version of this log
	list  []api.Entry
	ends  []int // how many entries there are up to the end of each batch
	added []api.Txn
	hopes []api.Txn
	gen   int
}

func bytesOf(list ...api.Entry) int {
	n := 0
	for _, x := range list {
		s, _ := entry.Encode(x)
		n += len(s)
	}
	return n
}

func sectorsOf(list []api.Entry) int { return (bytesOf(list...) + 231) / 232 }

func costs(list []api.Entry) int {
	n := 0
	for _, x := range list {
		n += entry.Cost(x)
	}
	return n
}

// plainLosers: the transactions of a list that have neither a Commit nor an End in it.
func plainLosers(list []api.Entry) []api.Txn {
	var losers []api.Txn
	for _, x := range list {
		over := func(y api.Entry) bool { return y.Txn == x.Txn && y.Kind >= api.Commit }
		if !slices.ContainsFunc(list, over) && !slices.Contains(losers, x.Txn) {
			losers = append(losers, x.Txn)
		}
	}
	return losers
}

// plainDue undoes each loser by itself, one change after the other, and counts these.
func plainDue(list []api.Entry) int {
	due := 0
	for _, t := range plainLosers(list) {
		due += 2
		own := past.Of(list, t)
		top := 0
		for _, x := range own {
			top = max(top, x.Lsn)
		}
		for {
			x, ok := mend.Back(own, t, 0)
			if !ok {
				break
			}
			due += 3
			top++
			y, _ := patch.Turn(x, top, top-1)
			own = append(own, y)
		}
	}
	return due
}

func (m *plain) leaves() []api.Leaf {
	var leaves []api.Leaf
	for n, p := range m.base {
		p, _ = patch.All(p, n, m.list)
		leaves = append(leaves, api.Leaf{N: n, Page: p})
	}
	return leaves
}

func (m *plain) forced() int {
	if len(m.ends) == 0 {
		return 0
	}
	return m.ends[len(m.ends)-1]
}

func (m *plain) room() int {
	room, begin := m.conf.Log, 0
	for _, end := range append(slices.Clone(m.ends), len(m.list)) {
		room -= sectorsOf(m.list[begin:end])
		begin = end
	}
	return room
}

func (m *plain) add(list []api.Entry) api.Errno {
	for _, x := range list {
		if !entry.Good(x) || x.Kind < api.Commit && x.Page >= m.conf.Pages {
			return api.ErrArg
		}
	}
	leaves := m.leaves()
	for _, x := range list {
		if x.Kind >= api.Commit {
			continue
		}
		p, e := leaves[x.Page].Page, api.OK
		if x.Lsn <= p.Lsn {
			return api.ErrOld
		}
		if leaves[x.Page].Page, _, e = patch.Redo(p, x); e != 0 {
			return e
		}
	}
	all := slices.Concat(m.list, list)
	if m.room()-costs(list) < plainDue(all) {
		return api.ErrFull
	}
	m.list = all
	for _, x := range list {
		if x.Kind == api.Commit {
			m.hopes = append(m.hopes, x.Txn)
		}
	}
	return 0
}

func (m *plain) force() {
	if m.forced() < len(m.list) {
		m.ends = append(m.ends, len(m.list))
	}
	for _, t := range m.hopes {
		if !slices.Contains(m.added, t) {
			m.added = append(m.added, t)
		}
	}
	m.hopes = nil
}

func (m *plain) check() {
	m.force()
	for n, l := range m.leaves() {
		m.base[n] = l.Page
	}
	losers := plainLosers(m.list)
	first := slices.IndexFunc(m.list, func(x api.Entry) bool { return slices.Contains(losers, x.Txn) })
	if first < 0 {
		first = len(m.list)
	}
	cut := 0
	var ends []int
	for _, end := range m.ends {
		if end <= first {
			cut = end
		} else {
			ends = append(ends, end-cut)
		}
	}
	m.list, m.ends = m.list[cut:], ends
}

func (m *plain) undo(client int) ([]api.Entry, api.Errno) {
	list, _, e := mend.Undo(m.list, m.leaves(), client)
	if e == 0 {
		e = m.add(list)
	}
	if e != 0 {
		return nil, e
	}
	return list, 0
}

// reopen: the power goes, what waits is lost.
func (m *plain) reopen() ([]api.Txn, api.Errno) {
	m.list = m.list[:m.forced()]
	m.gen++
	var done []api.Txn
	for _, x := range m.list {
		if x.Kind == api.Commit && !slices.Contains(done, x.Txn) {
			done = append(done, x.Txn)
		}
	}
	var pages []api.Leaf
	for n, p := range m.base {
		pages = append(pages, api.Leaf{N: n, Page: p})
	}
	list, left, e := mend.Restart(m.list, pages)
	if e == 0 && sectorsOf(list) > m.room() {
		e = api.ErrFull
	}
	if e != 0 {
		return nil, e
	}
	for n, l := range left {
		m.base[n] = l.Page
	}
	m.list, m.ends, m.added, m.hopes = nil, nil, nil, nil
	return done, 0
}

// agree: the store tells what the plain one does.
func (m *plain) agree(t *testing.T, v *vat.Vat) {
	t.Helper()
	want := state{m.room(), plainDue(m.list), m.gen, m.added, m.leaves()}
	if got := tell(t, v); !got.same(want) {
		t.Fatalf("%v, wanted %v; the log is %v", got, want, m.list)
	}
}

// wild makes entries that may be anything: of some pages and transactions, each with a Prev and a Next that lead where they will.
type wild struct {
	r    *rand.Rand
	m    *plain
	lsns map[api.Txn][]int // that each transaction ever had
}

func (w *wild) slot() api.Slot {
	switch w.r.Intn(8) {
	case 0, 1:
		return none
	case 2:
		return long("l", 60+w.r.Intn(80))
	}
	return long(string(rune('a'+w.r.Intn(26))), w.r.Intn(4))
}

// back: an Lsn below another one, most often one that the transaction has.
func (w *wild) back(t api.Txn, below int) int {
	l := w.lsns[t]
	if len(l) > 0 && w.r.Intn(8) > 0 {
		return min(l[len(l)-1-w.r.Intn(min(len(l), 3))], below-1)
	}
	return w.r.Intn(min(below, 3))
}

func (w *wild) entry(leaves []api.Leaf) api.Entry {
	x := api.Entry{Txn: txn(1+w.r.Intn(2), 1+w.r.Intn(30)/29, 1+w.r.Intn(3))}
	x.Kind = []int{1, 1, 1, 1, 1, 1, 1, 1, 2, 2, 2, 3, 4}[w.r.Intn(13)]
	n := w.r.Intn(len(leaves))
	page := leaves[n].Page
	x.Lsn = page.Lsn + 1 + w.r.Intn(2) - w.r.Intn(40)/39
	if x.Kind >= api.Commit {
		x.Lsn += w.r.Intn(2)
	}
	x.Lsn = max(x.Lsn, 1)
	x.Prev = w.back(x.Txn, x.Lsn)
	if x.Kind < api.Commit {
		x.Page, x.Slot = n, w.r.Intn(3)
		if x.Slot < len(page.Slots) && w.r.Intn(40) > 0 {
			x.Was = page.Slots[x.Slot]
		}
		x.Is = w.slot()
	}
	if x.Kind == api.Undo {
		x.Next = w.back(x.Txn, x.Prev+1)
	}
	if w.r.Intn(100) == 0 {
		x.Page += w.r.Intn(3)
	}
	return x
}

// list: entries each of which is made on the page that the one ahead of it leaves.
func (w *wild) list() []api.Entry {
	leaves := w.m.leaves()
	var list []api.Entry
	for range []int{0, 1, 1, 1, 1, 2, 3, 6}[w.r.Intn(8)] {
		x := w.entry(leaves)
		list = append(list, x)
		if x.Kind < api.Commit && x.Page < len(leaves) {
			if p, changed, e := patch.Redo(leaves[x.Page].Page, x); e == 0 && changed {
				leaves[x.Page].Page = p
			}
		}
	}
	return list
}

// Whatever is added: each call answers what the plain store does.
func TestByChance(t *testing.T) {
	r := rand.New(rand.NewSource(19))
	kinds := map[string]int{}
	for range 400 {
		conf := api.Config{Pages: 1 + r.Intn(4), Log: 16 + r.Intn(40), Pool: 4 + r.Intn(3)}
		d := plate.New(vat.Need(conf) + r.Intn(3))
		v := opens(t, d, conf)
		m := &plain{conf: conf, base: make([]api.Page, conf.Pages), gen: 2}
		w := &wild{r: r, m: m, lsns: map[api.Txn][]int{}}
		for range 60 {
			switch k := r.Intn(30); {
			case k < 22:
				list := w.list()
				e := m.add(list)
				code(t, "Add", v.Add(slices.Clone(list)), e)
				kinds["add"+string(rune('0'+e/10))+string(rune('0'+e%10))]++
				if e == 0 {
					for _, x := range list {
						w.lsns[x.Txn] = append(w.lsns[x.Txn], x.Lsn)
					}
				}
			case k < 25:
				m.force()
				force(t, v)
			case k < 26:
				m.check()
				check(t, v)
			case k < 28:
				client := 1 + r.Intn(3)
				want, e := m.undo(client)
				got, f := v.Undo(client)
				if e != f || !slices.Equal(got, want) {
					t.Fatalf("Undo: %v, %d, wanted %v, %d", got, f, want, e)
				}
				kinds["undo"+strings.Repeat("n", min(1, len(want)))+string(rune('0'+e/10))+string(rune('0'+e%10))]++
			case k < 29:
				n := r.Intn(conf.Pages)
				if p, e := v.Page(n); e != 0 || !samePage(p, m.leaves()[n].Page) {
					t.Fatalf("Page(%d): %v, %d", n, p, e)
				}
			default:
				cycle(d)
				done, e := m.reopen()
				kinds["open"+string(rune('0'+e/10))+string(rune('0'+e%10))]++
				var told []api.Txn
				var f api.Errno
				if v, told, f = vat.Open(d, conf); e != f || !slices.Equal(told, done) {
					t.Fatalf("Open: %v, %d, wanted %v, %d", told, f, done, e)
				}
			}
			if v == nil {
				break
			}
			m.agree(t, v)
		}
	}
	for _, kind := range []string{"add00", "add01", "add11", "add21", "add22", "add23", "undon00", "undo00", "undo04", "open00", "open04"} {
		if kinds[kind] < 3 {
			t.Error("too few of a kind", kind, kinds)
		}
	}
}
