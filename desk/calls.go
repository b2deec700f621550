package desk

import (
	"seneschal/api"
	"seneschal/entry"
	"seneschal/slab"
)

// How much room of the log is asked for: what a transaction needs to end, and what a change needs, beside its own cost, to be undone.
const (
	endRoom  = 2
	undoRoom = 3
)

// mostLsn is the greatest Lsn of a change; those above it are left for its undoing.
const mostLsn = api.MaxLsn - 1<<20

// answer: the reply to a call; nil: it waits.
func (d *Desk) answer(x api.Call) *api.Reply {
	if d.wait != nil {
		return fail(api.ErrBusy)
	}
	if d.lost != nil {
		r := &api.Reply{Code: api.ErrReset, Txn: *d.lost}
		d.lost = nil
		return r
	}
	if e := d.wrong(x); e != api.OK {
		return fail(e)
	}
	switch x.Kind {
	case api.CallBegin:
		return d.askRoom(x, endRoom)
	case api.CallSave:
		return &api.Reply{Slot: d.work.save()}
	case api.CallBack:
		d.backTo(x.Slot)
		return &api.Reply{Slot: x.Slot}
	case api.CallCommit:
		return d.commit(x)
	case api.CallRollback:
		d.rollback()
		return &api.Reply{}
	}
	return d.touch(x)
}

func fail(e api.Errno) *api.Reply {
	return &api.Reply{Code: e}
}

// wrong: the codes that a call is told at once.
func (d *Desk) wrong(x api.Call) api.Errno {
	begins := x.Kind == api.CallBegin
	switch {
	case !within(x.Kind, api.CallBegin, api.CallRollback):
		return api.ErrArg
	case begins != (d.work == nil):
		return api.ErrState
	case begins && (d.begun >= api.MaxTxn || d.last > mostLsn):
		return api.ErrLast
	case x.Kind == api.CallSave && len(d.work.saves) >= api.MaxSaves,
		x.Kind == api.CallBack && !within(x.Slot, 1, len(d.work.saves)):
		return api.ErrSave
	case x.Kind == api.CallCommit && d.last >= api.MaxLsn: // no entry could stand behind that one
		return api.ErrLast
	case within(x.Kind, api.CallRead, api.CallDelete):
		return d.wrongPlace(x)
	}
	return api.OK
}

// wrongPlace: the same of a call of a page.
func (d *Desk) wrongPlace(x api.Call) api.Errno {
	writes := x.Kind == api.CallInsert || x.Kind == api.CallUpdate
	switch {
	case !within(x.Page, 0, d.layout.Pages-1):
		return api.ErrArg
	case x.Kind != api.CallInsert && !within(x.Slot, 0, api.MaxSlots-1):
		return api.ErrArg
	case writes && len(x.Data) > api.MaxData:
		return api.ErrLong
	}
	return api.OK
}

// touch goes on with a call of a page, for which it needs the lock, and the page at hand; nil: it waits.
func (d *Desk) touch(x api.Call) *api.Reply {
	full := wantsFull(x)
	s, here := d.hand.Get(x.Page)
	if !here || !d.locks.Has(x.Page, full) {
		return d.askLock(x, !here)
	}
	d.locks.Use(x.Page, full)
	if !full {
		return read(s.page, x.Slot)
	}
	return d.alter(x, s.page, 0)
}

// wantsFull tells whether a call of a page wants its lock as an X.
func wantsFull(x api.Call) bool {
	return x.Kind != api.CallRead
}

func read(p api.Page, slot int) *api.Reply {
	s := slab.At(p, slot)
	if !s.Used {
		return fail(api.ErrNone)
	}
	return &api.Reply{Data: s.Data}
}

// alter goes on with a call that changes a page, for which it was promised so much room; nil: it waits. The change is made up anew when the room is there, since the server may have given another image of the page meanwhile.
func (d *Desk) alter(x api.Call, p api.Page, room int) *api.Reply {
	y, e := d.change(x, p)
	if e != api.OK {
		return fail(e)
	}
	if need := entry.Cost(y) + undoRoom; need > room {
		d.hand.Pin(x.Page)
		return d.askRoom(x, need)
	}
	if e := d.apply(y); e != api.OK {
		return fail(e)
	}
	d.work.open = append(d.work.open, y)
	if d.hand.Pins(x.Page) == 0 {
		d.hand.Pin(x.Page)
	}
	return &api.Reply{Slot: y.Slot}
}

// change: the entry that a call makes of a page.
func (d *Desk) change(x api.Call, p api.Page) (api.Entry, api.Errno) {
	slot, is, e := place(x, p)
	if e != api.OK {
		return api.Entry{}, e
	}
	y := api.Entry{
		Kind: api.Change, Txn: d.work.name, Lsn: d.next(p), Prev: d.work.last,
		Page: x.Page, Slot: slot, Was: slab.At(p, slot), Is: is,
	}
	if y.Lsn > mostLsn {
		return api.Entry{}, api.ErrLast
	}
	return y, api.OK
}

// place: which slot of a page a call changes, and to what.
func place(x api.Call, p api.Page) (int, api.Slot, api.Errno) {
	is := api.Slot{Used: true, Data: x.Data}
	switch {
	case x.Kind == api.CallInsert:
		slot, e := slab.Vacant(p, len(x.Data))
		return slot, is, e
	case !slab.At(p, x.Slot).Used:
		return 0, is, api.ErrNone
	case x.Kind == api.CallDelete:
		return x.Slot, api.Slot{}, api.OK
	}
	_, e := slab.Put(p, x.Slot, is)
	return x.Slot, is, e
}
