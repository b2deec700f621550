package past_test

import (
	"math/rand"
	"slices"
	"testing"

	"seneschal/api"
	"seneschal/entry"
	"seneschal/past"
)

// The chapter read plainly: each thing is looked for in the whole list.

func plainOf(list []api.Entry, t api.Txn) []api.Entry {
	return slices.DeleteFunc(slices.Clone(list), func(x api.Entry) bool { return !entry.Good(x) || x.Txn != t })
}

// names are the transactions of a list, each put ahead of the first one that is greater.
func names(list []api.Entry) []api.Txn {
	var sorted []api.Txn
	for _, x := range list {
		if !entry.Good(x) || slices.Contains(sorted, x.Txn) {
			continue
		}
		at := slices.IndexFunc(sorted, func(t api.Txn) bool { return ahead(x.Txn, t) })
		if at < 0 {
			at = len(sorted)
		}
		sorted = slices.Insert(sorted, at, x.Txn)
	}
	return sorted
}

func ahead(s, t api.Txn) bool {
	switch {
	case s.Client != t.Client:
		return s.Client < t.Client
	case s.Epoch != t.Epoch:
		return s.Epoch < t.Epoch
	}
	return s.N < t.N
}

func atEnd(list []api.Entry, t api.Txn) bool {
	return slices.ContainsFunc(plainOf(list, t), func(x api.Entry) bool { return x.Kind == api.Commit || x.Kind == api.End })
}

func plainLosers(list []api.Entry) []api.Loser {
	var losers []api.Loser
	for _, t := range names(list) {
		if own := plainOf(list, t); !atEnd(list, t) {
			losers = append(losers, api.Loser{Txn: t, Last: own[len(own)-1].Lsn})
		}
	}
	return losers
}

func plainDone(list []api.Entry) []api.Txn {
	var done []api.Txn
	for _, x := range list {
		if entry.Good(x) && x.Kind == api.Commit && !slices.Contains(done, x.Txn) {
			done = append(done, x.Txn)
		}
	}
	return done
}

func plainPages(list []api.Entry, first int) []api.First {
	var pages []api.First
	for page := range api.MaxPages {
		changes := func(x api.Entry) bool {
			return x.Page == page && (x.Kind == api.Change || x.Kind == api.Undo) && entry.Good(x)
		}
		if at := slices.IndexFunc(list, changes); at >= 0 {
			pages = append(pages, api.First{Page: page, N: first + at})
		}
	}
	return pages
}

func plainNeeded(list []api.Entry, first int) int {
	for at, x := range list {
		if entry.Good(x) && !atEnd(list, x.Txn) {
			return first + at
		}
	}
	return 0
}

// agree holds all answers of a list against the plain readings, and tells how many losers there are, and how many are done.
func agree(t *testing.T, list []api.Entry, first int) (int, int) {
	t.Helper()
	losers, done := plainLosers(list), plainDone(list)
	reads(t, list, first, losers, done, plainPages(list, first))
	needs(t, list, first, plainNeeded(list, first))
	for _, name := range names(list) {
		owns(t, list, name, plainOf(list, name)...)
		lost := slices.ContainsFunc(past.Read(list, first).Losers, func(l api.Loser) bool { return l.Txn == name })
		if lost == atEnd(list, name) {
			t.Errorf("%v of %v: a loser: %t", name, list, lost)
		}
	}
	if t.Failed() {
		t.FailNow()
	}
	return len(losers), len(done)
}

// Each list of up to four of these: two transactions, each with two pages, both ends, and what is no entry.
func TestEachList(t *testing.T) {
	var some []api.Entry
	for _, name := range []api.Txn{b, a} {
		some = append(some, change(name, 1, 6), undo(name, 1, 5), commit(name, 1), end(name, 1), api.Entry{Txn: name, Lsn: 1})
	}
	lists := [][]api.Entry{nil}
	for n := range 5 {
		var longer [][]api.Entry
		for _, list := range lists {
			agree(t, list, 3)
			if n == 4 {
				continue
			}
			for _, x := range some {
				x.Lsn += n // so that it shows which entry is the last one
				longer = append(longer, append(slices.Clone(list), x))
			}
		}
		lists = longer
	}
}

// Lists by chance: few and many transactions, names that share parts, Lsns in no order, one entry in eight none.
func TestByChance(t *testing.T) {
	r := rand.New(rand.NewSource(17))
	parts := []int{1, 2, 3, 1 << 30}
	lost, over := 0, 0
	for range 3000 {
		few := 1 + r.Intn(len(parts))
		list := make([]api.Entry, r.Intn(40))
		for i := range list {
			name := txn([]int{1, 2, 7, 8}[r.Intn(few)], parts[r.Intn(few)], parts[r.Intn(few)])
			lsn, page := 1+r.Intn(1<<r.Intn(41)), []int{0, 1, 500, 1022, 1023}[r.Intn(5)]
			switch r.Intn(24) {
			case 0, 1:
				list[i] = commit(name, lsn)
			case 2, 3:
				list[i] = end(name, lsn)
			case 4, 5, 6:
				bad := none()
				list[i] = bad[r.Intn(len(bad))]
			case 7, 8, 9, 10, 11, 12, 13:
				list[i] = undo(name, lsn, page)
			default:
				list[i] = change(name, lsn, page)
			}
		}
		losers, done := agree(t, list, 1+r.Intn(1<<r.Intn(41)))
		lost, over = lost+losers, over+done
	}
	if lost < 3000 || over < 3000 {
		t.Errorf("only %d losers, %d done", lost, over)
	}
}
