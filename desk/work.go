package desk

import (
	"seneschal/api"
	"seneschal/mend"
	"seneschal/patch"
)

// work is a transaction.
type work struct {
	name  api.Txn
	last  int         // the Lsn of its last entry; 0: it has none
	open  []api.Entry // its changes that aren't undone
	saves []int       // its last entry's Lsn at each savepoint
}

// newest: the change that is to be undone next, alone: layer 18 goes over all that it is given, so that a long transaction would be gone over for each of its changes.
func (w *work) newest() []api.Entry {
	return w.open[max(0, len(w.open)-1):]
}

// save: one more savepoint; its number.
func (w *work) save() int {
	w.saves = append(w.saves, w.last)
	return len(w.saves)
}

// next: the Lsn of an entry that changes a page.
func (d *Desk) next(p api.Page) int {
	return 1 + max(d.last, p.Lsn)
}

// enter has an entry of the transaction.
func (d *Desk) enter(x api.Entry) {
	d.last, d.work.last = x.Lsn, x.Lsn
	d.unsent = append(d.unsent, x)
}

// endBy has the entry with which the transaction ends. Where numbers end there can be none: an undoing may have come to the last one.
func (d *Desk) endBy(kind int) {
	if d.last < api.MaxLsn {
		d.enter(api.Entry{Kind: kind, Txn: d.work.name, Lsn: d.next(api.Page{}), Prev: d.work.last})
	}
}

// apply changes a page at hand by an entry; layer 5's errors.
func (d *Desk) apply(x api.Entry) api.Errno {
	s, _ := d.hand.Get(x.Page)
	p, _, e := patch.Redo(s.page, x)
	if e != api.OK {
		return e
	}
	d.hand.Put(x.Page, sheet{page: p, changed: true})
	d.enter(x)
	return api.OK
}

func (d *Desk) begin() *api.Reply {
	d.begun++
	d.work = &work{name: api.Txn{Client: d.client, Epoch: d.epoch, N: d.begun}}
	return &api.Reply{Txn: d.work.name}
}

// backTo undoes what was done behind a savepoint.
func (d *Desk) backTo(save int) {
	d.undo(d.work.saves[save-1])
	d.work.saves = d.work.saves[:save]
}

// undo undoes the changes whose Lsns are above one, newest first, up to one that can't be undone: such an image the server must have given.
func (d *Desk) undo(down int) {
	for {
		x, some := mend.Back(d.work.newest(), d.work.name, down)
		if !some {
			return
		}
		s, _ := d.hand.Get(x.Page)
		y, e := patch.Turn(x, d.next(s.page), d.work.last)
		if e != api.OK || d.apply(y) != api.OK {
			return
		}
		d.work.open = d.work.open[:len(d.work.open)-1]
	}
}

func (d *Desk) commit(x api.Call) *api.Reply {
	d.endBy(api.Commit)
	d.sendEntries()
	d.send(api.Msg{Kind: api.MsgCommit, Txn: d.work.name})
	d.wait = &wait{call: x, what: forSure}
	return nil
}

func (d *Desk) rollback() {
	d.undo(0)
	if d.work.last == 0 {
		d.send(api.Msg{Kind: api.MsgSpare, N: endRoom})
	} else {
		d.endBy(api.End)
		d.sendEntries()
	}
	d.end()
}

// end: the transaction is at its end; no page is pinned any more.
func (d *Desk) end() {
	for n := range d.hand.All() {
		d.hand.Let(n)
	}
	d.work = nil
	for _, l := range d.locks.End() {
		d.letGo(l.Page, l.Keep)
	}
}
