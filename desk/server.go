package desk

import (
	"slices"

	"seneschal/api"
	"seneschal/latch"
)

// sheet is a page at hand.
type sheet struct {
	page    api.Page
	changed bool // since its image was sent
}

// heard: the reply that a message brings to the call that waits; nil: it brings none.
func (d *Desk) heard(m api.Msg) *api.Reply {
	switch m.Kind {
	case api.MsgGrant:
		return d.granted(m)
	case api.MsgCall:
		d.called(m)
	case api.MsgSure:
		if d.waits(forSure) && m.Txn == d.work.name {
			d.end()
			return &api.Reply{}
		}
	case api.MsgVictim:
		if d.waits(forLock) {
			d.rollback()
			return fail(api.ErrVictim)
		}
	case api.MsgRoom:
		if d.waits(forRoom) {
			return d.promised(m.N)
		}
	}
	return nil
}

func (d *Desk) waits(what int) bool {
	return d.wait != nil && d.wait.what == what
}

// granted: a lock is had, a page is at hand, and the call that waits for these goes on; nil: it waits, or there is none.
func (d *Desk) granted(m api.Msg) *api.Reply {
	waits := d.waits(forLock) && d.wait.call.Page == m.Page
	mayBeFull := d.locks.Has(m.Page, true) || waits && wantsFull(d.wait.call) // else it was called back meanwhile
	d.locks.Grant(m.Page, m.X && mayBeFull)
	laid := !m.Need || d.lay(m.Page, m.Image)
	switch {
	case !waits:
		return nil
	case !laid:
		return fail(api.ErrFull)
	}
	return d.touch(d.wait.call)
}

// called: the server calls a lock back.
func (d *Desk) called(m api.Msg) {
	switch d.locks.Call(m.Page, m.X) {
	case latch.LetGo:
		d.letGo(m.Page, false)
	case latch.Shares:
		d.letGo(m.Page, true)
	case latch.Later:
		d.send(api.Msg{Kind: api.MsgInUse, Page: m.Page})
	}
}

// promised: the call that waits for room is told how much it has, and goes on; nil: it waits.
func (d *Desk) promised(room int) *api.Reply {
	x := d.wait.call
	begins := x.Kind == api.CallBegin
	if !begins {
		d.hand.Let(x.Page)
	}
	switch {
	case room == 0:
		return fail(api.ErrLogFull)
	case begins:
		return d.begin()
	}
	s, _ := d.hand.Get(x.Page)
	return d.alter(x, s.page, d.wait.room)
}

// askLock: a call waits for the lock of its page, and for the page, if it isn't at hand. What it has of the lock stays meanwhile.
func (d *Desk) askLock(x api.Call, need bool) *api.Reply {
	full := wantsFull(x)
	d.locks.Use(x.Page, full && d.locks.Has(x.Page, true))
	d.send(api.Msg{Kind: api.MsgLock, Page: x.Page, X: full, Need: need})
	d.wait = &wait{call: x, what: forLock}
	return nil
}

// askRoom: a call waits for room of the log.
func (d *Desk) askRoom(x api.Call, n int) *api.Reply {
	d.send(api.Msg{Kind: api.MsgSpace, N: n})
	d.wait = &wait{call: x, what: forRoom, room: n}
	return nil
}

// lay: a page is at hand as an image says; false: no frame can be had. What leaves for it is sent.
func (d *Desk) lay(n int, p api.Page) bool {
	out, ok := d.hand.Put(n, sheet{page: another(p)})
	d.sendSheet(out.Key, out.Val)
	return ok
}

// letGo: a lock is let go, but for a shared one, if it is kept.
func (d *Desk) letGo(n int, keep bool) {
	if s, here := d.hand.Get(n); here {
		d.sendSheet(n, s)
		d.hand.Put(n, sheet{page: s.page})
	}
	d.send(api.Msg{Kind: api.MsgFree, Page: n, X: keep})
	if !keep {
		d.hand.Del(n)
	}
}

// sendSheet sends a page, if it is changed, the entries ahead of it.
func (d *Desk) sendSheet(n int, s sheet) {
	if s.changed {
		d.sendEntries()
		d.send(api.Msg{Kind: api.MsgImage, Page: n, Image: another(s.page)})
	}
}

func (d *Desk) sendEntries() {
	for some := range slices.Chunk(d.unsent, api.MaxEntries) {
		d.send(api.Msg{Kind: api.MsgLog, Entries: slices.Clone(some)})
	}
	d.unsent = nil
}

func (d *Desk) send(m api.Msg) {
	d.out = append(d.out, m)
}

// another: the same image in new memory.
func another(p api.Page) api.Page {
	return api.Page{Lsn: p.Lsn, Slots: slices.Clone(p.Slots)}
}
