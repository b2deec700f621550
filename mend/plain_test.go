package mend_test

import (
	"math/rand"
	"reflect"
	"slices"
	"strings"
	"testing"

	"seneschal/api"
	"seneschal/entry"
	"seneschal/mend"
	"seneschal/past"
	"seneschal/patch"
	"seneschal/slab"
)

// The chapter read plainly: each thing is looked for in the whole list, anew for each entry that is added.

// Where a plain search came to.
const (
	nowhere = iota
	found
	astray
)

func plainLead(own []api.Entry, next int) (api.Entry, int) {
	if next == 0 {
		return api.Entry{}, nowhere
	}
	at := slices.IndexFunc(own, func(x api.Entry) bool { return x.Lsn == next })
	switch {
	case at >= 0 && own[at].Kind == api.Change:
		return own[at], found
	case at >= 0 && own[at].Kind == api.Undo:
		return plainLead(own, own[at].Next)
	}
	return api.Entry{}, astray
}

func plainNext(list []api.Entry, t api.Txn) (api.Entry, int) {
	own := past.Of(list, t)
	if len(own) == 0 {
		return api.Entry{}, nowhere
	}
	switch x := own[len(own)-1]; x.Kind {
	case api.Change:
		return x, found
	case api.Undo:
		return plainLead(own, x.Next)
	}
	return api.Entry{}, nowhere
}

func plainBack(list []api.Entry, t api.Txn, down int) (api.Entry, bool) {
	x, how := plainNext(list, t)
	if how == found && x.Lsn > down {
		return x, true
	}
	return api.Entry{}, false
}

func plainFit(list []api.Entry, pages []api.Leaf) bool {
	for i, l := range pages {
		same := func(m api.Leaf) bool { return m.N == l.N }
		if l.N < 0 || l.N > 1023 || !slab.Good(l.Page) || slices.ContainsFunc(pages[:i], same) {
			return false
		}
	}
	for _, x := range list {
		there := func(l api.Leaf) bool { return l.N == x.Page }
		if !entry.Good(x) || x.Kind < api.Commit && !slices.ContainsFunc(pages, there) {
			return false
		}
	}
	return true
}

func plainRedo(list []api.Entry, pages []api.Leaf) ([]api.Leaf, api.Errno) {
	if !plainFit(list, pages) {
		return nil, api.ErrArg
	}
	var redone []api.Leaf
	for _, l := range pages {
		p, e := patch.All(l.Page, l.N, list)
		if e != 0 {
			return nil, e
		}
		redone = append(redone, api.Leaf{N: l.N, Page: p})
	}
	return redone, 0
}

// plainPick: which one is undone next, and how that went: nowhere, if all are.
func plainPick(all []api.Entry, losers []api.Loser) (api.Entry, int) {
	var it api.Entry
	stands := -1
	for _, l := range losers {
		x, how := plainNext(all, l.Txn)
		if how == astray {
			return api.Entry{}, astray
		}
		at := slices.IndexFunc(all, func(y api.Entry) bool { return y.Txn == x.Txn && y.Lsn == x.Lsn })
		if how == found && at > stands {
			it, stands = x, at
		}
	}
	if stands < 0 {
		return api.Entry{}, nowhere
	}
	return it, found
}

func lastOf(list []api.Entry, t api.Txn) int {
	own := past.Of(list, t)
	return own[len(own)-1].Lsn
}

func plainUndo(list []api.Entry, pages []api.Leaf, client int) ([]api.Entry, []api.Leaf, api.Errno) {
	if !plainFit(list, pages) || client < 0 || client > 8 {
		return nil, nil, api.ErrArg
	}
	losers := slices.DeleteFunc(past.Read(list, 1).Losers, func(l api.Loser) bool { return client != 0 && client != l.Txn.Client })
	all, left := slices.Clone(list), slices.Clone(pages)
	for {
		it, how := plainPick(all, losers)
		if how == astray {
			return nil, nil, api.ErrForm
		}
		if how == nowhere {
			break
		}
		page := &left[slices.IndexFunc(left, func(l api.Leaf) bool { return l.N == it.Page })]
		last := lastOf(all, it.Txn)
		lsn := max(page.Page.Lsn, last) + 1
		if lsn > top {
			return nil, nil, api.ErrLast
		}
		x, e := patch.Turn(it, lsn, last)
		if e != 0 {
			return nil, nil, e
		}
		p, _, e := patch.Redo(page.Page, x)
		if e != 0 {
			return nil, nil, e
		}
		page.Page, all = p, append(all, x)
	}
	for _, l := range losers {
		last := lastOf(all, l.Txn)
		if last+1 > top {
			return nil, nil, api.ErrLast
		}
		all = append(all, end(l.Txn, last+1, last))
	}
	return all[len(list):], left, 0
}

func plainRestart(list []api.Entry, pages []api.Leaf) ([]api.Entry, []api.Leaf, api.Errno) {
	redone, e := plainRedo(list, pages)
	if e != 0 {
		return nil, nil, e
	}
	return plainUndo(list, redone, 0)
}

func plainRows(pages []api.Leaf) []api.Row {
	var all []api.Row
	for n := range 1024 {
		at := slices.IndexFunc(pages, func(l api.Leaf) bool { return l.N == n })
		if at < 0 || !slab.Good(pages[at].Page) {
			continue
		}
		for slot, x := range pages[at].Page.Slots {
			if x.Used {
				all = append(all, api.Row{Page: n, Slot: slot, Data: x.Data})
			}
		}
	}
	return all
}

// tally counts what Undo and Restart answered, by their errors.
type tally map[api.Errno]int

// agree holds all answers against the plain readings.
func agree(t *testing.T, list []api.Entry, pages []api.Leaf, count tally) {
	t.Helper()
	redone, e := plainRedo(list, pages)
	redoes(t, list, pages, redone, e)
	for _, client := range []int{0, 1, 2, 8} {
		x, p, e := mend.Undo(list, pages, client)
		x2, p2, e2 := plainUndo(list, pages, client)
		if !slices.Equal(x, x2) || !samePages(p, p2) || e != e2 {
			t.Errorf("Undo(%v, %v, %d): %v, %v, %d, wanted %v, %v, %d", list, pages, client, x, p, e, x2, p2, e2)
		}
		count[e]++
	}
	x, p, e := mend.Restart(list, pages)
	x2, p2, e2 := plainRestart(list, pages)
	if !slices.Equal(x, x2) || !samePages(p, p2) || e != e2 {
		t.Errorf("Restart(%v, %v): %v, %v, %d, wanted %v, %v, %d", list, pages, x, p, e, x2, p2, e2)
	}
	count[e]++
	rows(t, pages, plainRows(pages)...)
	rows(t, p, plainRows(p)...)
	for _, name := range []api.Txn{a, b, {}} {
		for _, down := range []int{-1, 0, 1, 2, 5, top} {
			want, ok := plainBack(list, name, down)
			backs(t, list, name, down, want, ok)
		}
	}
	if t.Failed() {
		t.FailNow()
	}
}

// bareOnes: all bare Changes and Undos of a transaction with Lsns up to most.
func bareOnes(name api.Txn, most int) []api.Entry {
	var all []api.Entry
	for lsn := 1; lsn <= most; lsn++ {
		for prev := range lsn {
			all = append(all, bare(name, lsn, prev))
			for next := range prev + 1 {
				all = append(all, bareUndo(name, lsn, prev, next))
			}
		}
	}
	return all
}

// Each list of up to three of these: two transactions, Changes and Undos with Lsns up to 3 that name whatever they can, ends, and what is no entry.
func TestEachList(t *testing.T) {
	some := []api.Entry{commit(a, 2, 1), end(b, 3, 1), {Txn: a, Lsn: 1}}
	some = append(some, bareOnes(a, 3)...)
	some = append(some, bareOnes(b, 3)...)
	pages := []api.Leaf{leaf(0, 1)}
	count := tally{}
	for _, x := range some {
		agree(t, []api.Entry{x}, pages, count)
		for _, y := range some {
			agree(t, []api.Entry{x, y}, pages, count)
			for _, z := range some {
				agree(t, []api.Entry{x, y, z}, pages, count)
			}
		}
	}
	if count[0] < 10000 || count[api.ErrForm] < 10000 || count[api.ErrArg] < 1000 {
		t.Error(count)
	}
}

// bareByChance is a list of bare entries whose Lsns rise or don't, and that name others, or nothing.
func bareByChance(r *rand.Rand) []api.Entry {
	names := []api.Txn{a, b, c, txn(1, 1, 2), txn(1, 2, 1), txn(8, 1, 1)}[:1+r.Intn(6)]
	rise := r.Intn(3) > 0
	lasts := map[api.Txn][]int{}
	var list []api.Entry
	for i := range r.Intn(16) {
		name := names[r.Intn(len(names))]
		lsn := 1 + r.Intn(12)
		if rise {
			lsn = 1 + i*2 + r.Intn(2)
		}
		// One of the own Lsns, most often, and below most.
		below := func(most int) int {
			own := slices.DeleteFunc(append(slices.Clone(lasts[name]), 0), func(n int) bool { return n > most })
			if r.Intn(12) == 0 {
				return r.Intn(most + 1)
			}
			return own[r.Intn(len(own))]
		}
		prev := below(lsn - 1)
		x := bare(name, lsn, prev)
		switch r.Intn(20) {
		case 0:
			x = commit(name, lsn, prev)
		case 1:
			x = end(name, lsn, prev)
		case 2, 3, 4, 5, 6, 7, 8:
			x = bareUndo(name, lsn, prev, below(prev))
		}
		if x.Kind < api.Commit {
			x.Page = r.Intn(3)
		}
		lasts[name] = append(lasts[name], lsn)
		list = append(list, x)
	}
	return list
}

func TestBareByChance(t *testing.T) {
	r := rand.New(rand.NewSource(18))
	count := tally{}
	for range 10000 {
		pages := []api.Leaf{leaf(0, r.Intn(20)), leaf(1, 0), leaf(2, r.Intn(9))}
		r.Shuffle(len(pages), reflect.Swapper(pages))
		if r.Intn(20) == 0 {
			pages[1].Page.Lsn = top - r.Intn(4)
		}
		agree(t, bareByChance(r), pages, count)
	}
	if count[0] < 20000 || count[api.ErrForm] < 2000 || count[api.ErrLast] < 200 {
		t.Error(count)
	}
}

// spoil changes one thing of a list or of pages.
func spoil(r *rand.Rand, list []api.Entry, pages []api.Leaf) {
	if len(list) == 0 || r.Intn(4) == 0 {
		l := &pages[r.Intn(len(pages))]
		switch r.Intn(4) {
		case 0:
			l.N = r.Intn(5) - 1
		case 1:
			l.Page.Lsn += r.Intn(5) - 2
		case 2:
			rest := max(0, min(239-slab.Size(l.Page), 200)) // the page is full then
			l.Page.Slots = append(slices.Clone(l.Page.Slots), rec(strings.Repeat("s", rest)))
		case 3:
			l.Page = api.Page{Lsn: r.Intn(40)}
		}
		return
	}
	x := &list[r.Intn(len(list))]
	switch r.Intn(7) {
	case 0:
		x.Lsn += r.Intn(9) - 4
	case 1:
		x.Prev += r.Intn(5) - 2
	case 2:
		x.Next += r.Intn(5) - 2
	case 3:
		x.Page += r.Intn(3) - 1
	case 4:
		x.Kind += r.Intn(3) - 1
	case 5:
		x.Is, x.Was = x.Was, x.Is
	case 6:
		*x = list[r.Intn(len(list))]
	}
}

// Logs that clients made, some of them spoiled, and pages of any version.
func TestMadeByChance(t *testing.T) {
	r := rand.New(rand.NewSource(19))
	count := tally{}
	for range 4000 {
		w := newWorld(r)
		w.play(r.Intn(30))
		list := slices.Clone(w.list[:r.Intn(len(w.list)+1)])
		pages := w.versions(0, len(list))
		for range r.Intn(3) {
			spoil(r, list, pages)
		}
		agree(t, list, pages, count)
	}
	for _, e := range []api.Errno{0, api.ErrArg, api.ErrForm, api.ErrSlot, api.ErrPageFull} {
		if count[e] < 10 {
			t.Error(e, count)
		}
	}
}
