package vat

import "seneschal/api"

// How much room of the log is kept for each loser's End, and for the undoing of each of its changes.
const (
	endRoom  = 2
	undoRoom = 3
)

// debts tells what the undoing of a log's losers may need, while entries come.
type debts struct {
	ahead   *debts // what the log had ahead of these entries; nil: they are all of it
	steps   map[point]step
	courses map[api.Txn]course
	due     int
}

// point is what one entry names another one of its transaction by.
type point struct {
	txn api.Txn
	lsn int
}

// step is an entry, as an undoing goes by it: from a Change to its Prev, from an Undo to its Next.
type step struct {
	to     int // the Lsn of the entry to which it leads; 0: to none
	count  int // how many changes are undone from here on; of one that leads astray: here alone
	astray bool
}

// course is how a transaction goes.
type course struct {
	ended bool
	due   int
}

func newDebts(ahead *debts, due int) *debts {
	return &debts{ahead: ahead, steps: map[point]step{}, courses: map[api.Txn]course{}, due: due}
}

func debtsOf(list []api.Entry) *debts {
	d := newDebts(nil, 0)
	for _, x := range list {
		d.take(x)
	}
	return d
}

// trial takes entries behind these, which stay as they are.
func (d *debts) trial() *debts {
	return newDebts(d, d.due)
}

func (d *debts) take(x api.Entry) {
	c := d.course(x.Txn)
	d.due -= c.due
	c.due = 0
	if x.Kind == api.Commit || x.Kind == api.End {
		c.ended = true
	}
	if !c.ended {
		s := d.stepOf(x)
		c.due = endRoom + undoRoom*d.count(x.Txn, s)
		if _, known := d.at(x.Txn, x.Lsn); !known {
			d.steps[point{txn: x.Txn, lsn: x.Lsn}] = s
		}
	}
	d.due += c.due
	d.courses[x.Txn] = c
}

func (d *debts) course(t api.Txn) course {
	c, known := d.courses[t]
	if !known && d.ahead != nil {
		return d.ahead.course(t)
	}
	return c
}

// at: the first entry of a transaction that has this Lsn, and of Lsn 0 nothing at all; false: there is none.
func (d *debts) at(t api.Txn, lsn int) (step, bool) {
	if lsn == 0 {
		return step{}, true
	}
	if d.ahead != nil {
		if s, known := d.ahead.at(t, lsn); known {
			return s, true
		}
	}
	s, known := d.steps[point{txn: t, lsn: lsn}]
	return s, known
}

// stepOf: an entry of the kinds that change a page, as a step. It counts what it leads to at once, so that nobody need go all the way anew with each entry.
func (d *debts) stepOf(x api.Entry) step {
	s := step{to: x.Next}
	if x.Kind == api.Change {
		s = step{to: x.Prev, count: 1}
	}
	next, known := d.at(x.Txn, s.to)
	if !known || next.astray {
		s.astray = true
		return s
	}
	s.count += next.count
	return s
}

// count: how many changes are undone from a step on. What was missing when that came may have come since.
func (d *debts) count(t api.Txn, s step) int {
	n := s.count
	for s.astray {
		s, _ = d.at(t, s.to) // if it is still missing, that is a step to nowhere
		n += s.count
	}
	return n
}
