package mend

import (
	"container/heap"
	"slices"

	"seneschal/api"
	"seneschal/past"
	"seneschal/patch"
)

// trail is a log whose entries are found by their transactions.
type trail struct {
	list  []api.Entry
	last  map[api.Txn]int // where the last entry of each transaction stands
	first map[point]int   // where the first entry stands that has such a point
}

// point is what one entry names another one of its transaction by.
type point struct {
	txn api.Txn
	lsn int
}

func read(list []api.Entry) trail {
	t := trail{list: list, last: map[api.Txn]int{}, first: map[point]int{}}
	for at, x := range list {
		t.last[x.Txn] = at
		if _, known := t.first[pointOf(x)]; !known {
			t.first[pointOf(x)] = at
		}
	}
	return t
}

func pointOf(x api.Entry) point {
	return point{txn: x.Txn, lsn: x.Lsn}
}

// next: the next one to be undone of a transaction, the zero value, if there is none; ErrForm: it leads astray.
func (t trail) next(name api.Txn) (api.Entry, api.Errno) {
	at, known := t.last[name]
	if !known {
		return api.Entry{}, api.OK
	}
	switch x := t.list[at]; x.Kind {
	case api.Change:
		return x, api.OK
	case api.Undo:
		return t.lead(name, x.Next)
	}
	return api.Entry{}, api.OK
}

// lead: the change that a Next leads to, and as in next. It ends, since the Next of an Undo is below its Lsn.
func (t trail) lead(name api.Txn, next int) (api.Entry, api.Errno) {
	for next != 0 {
		at, known := t.first[point{txn: name, lsn: next}]
		if !known {
			return api.Entry{}, api.ErrForm
		}
		switch x := t.list[at]; x.Kind {
		case api.Change:
			return x, api.OK
		case api.Undo:
			next = x.Next
		default:
			return api.Entry{}, api.ErrForm
		}
	}
	return api.Entry{}, api.OK
}

// work is an undoing under way. What is added needn't go into the log: it has Lsns above all that is still to be undone, so that no Next leads to it.
type work struct {
	log    trail
	pages  []api.Leaf
	place  map[int]int // where each page stands
	losers []*loser    // by their names
	queue  queue       // those that have a next one to be undone
	added  []api.Entry
}

type loser struct {
	name api.Txn
	last int       // the Lsn of its last entry
	next api.Entry // the next one to be undone
	at   int       // where that stands
}

func begin(list []api.Entry, pages []api.Leaf, client int) *work {
	w := &work{log: read(list), place: places(pages)}
	for _, leaf := range pages {
		leaf.Page.Slots = slices.Clone(leaf.Page.Slots)
		w.pages = append(w.pages, leaf)
	}
	for _, l := range past.Read(list, 1).Losers {
		if client == 0 || l.Txn.Client == client {
			w.losers = append(w.losers, &loser{name: l.Txn, last: l.Last})
		}
	}
	return w
}

// undoAll undoes what the losers did, newest first.
func (w *work) undoAll() api.Errno {
	for _, l := range w.losers {
		x, e := w.log.next(l.name)
		if e != api.OK {
			return e
		}
		w.wait(l, x)
	}
	for len(w.queue) > 0 {
		l := heap.Pop(&w.queue).(*loser)
		if e := w.undo(l); e != api.OK {
			return e
		}
		x, e := w.log.lead(l.name, l.next.Prev)
		if e != api.OK {
			return e
		}
		w.wait(l, x)
	}
	return api.OK
}

// wait: a loser waits for its next one to be undone, if that is one.
func (w *work) wait(l *loser, next api.Entry) {
	if next.Kind == api.Change {
		l.next, l.at = next, w.log.first[pointOf(next)]
		heap.Push(&w.queue, l)
	}
}

// undo undoes a loser's next one.
func (w *work) undo(l *loser) api.Errno {
	page := &w.pages[w.place[l.next.Page]].Page
	lsn := 1 + max(page.Lsn, l.last)
	if lsn > api.MaxLsn {
		return api.ErrLast // asked ahead of Turn, to which such an Lsn is a wrong argument
	}
	x, e := patch.Turn(l.next, lsn, l.last)
	if e != api.OK {
		return e
	}
	p, _, e := patch.Redo(*page, x)
	if e != api.OK {
		return e
	}
	*page = p
	w.add(l, x)
	return api.OK
}

// endAll adds the losers' Ends.
func (w *work) endAll() api.Errno {
	for _, l := range w.losers {
		if l.last == api.MaxLsn {
			return api.ErrLast
		}
		w.add(l, api.Entry{Kind: api.End, Txn: l.name, Lsn: l.last + 1, Prev: l.last})
	}
	return api.OK
}

func (w *work) add(l *loser, x api.Entry) {
	w.added = append(w.added, x)
	l.last = x.Lsn
}

// queue is a heap: the loser is first whose next one to be undone stands last.
type queue []*loser

func (q queue) Len() int           { return len(q) }
func (q queue) Less(i, k int) bool { return q[i].at > q[k].at }
func (q queue) Swap(i, k int)      { q[i], q[k] = q[k], q[i] }
func (q *queue) Push(l any)        { *q = append(*q, l.(*loser)) }

func (q *queue) Pop() any {
	last := len(*q) - 1
	l := (*q)[last]
	*q = (*q)[:last]
	return l
}
