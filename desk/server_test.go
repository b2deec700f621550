package desk_test

import (
	"fmt"
	"math"
	"slices"
	"strings"
	"testing"

	"seneschal/api"
)

// P20.1: locks

func TestLockAtHand(t *testing.T) {
	d := newTester(t, conf)
	d.begin(1)
	d.has(1, 1, true, image(0, "a"))
	d.now(read(1, 0), api.Reply{Txn: txn(1), Data: "a"})
	d.changes(1, update(1, 0, "b"), 5, 0)
	d.commit(1, change(1, 11, 0, 1, 0, rec("a"), rec("b")), commit(1, 12, 11))
	d.begin(2)
	d.changes(2, update(1, 0, "c"), 5, 0)
	d.commit(2, change(2, 13, 0, 1, 0, rec("b"), rec("c")), commit(2, 14, 13))
}

// A shared lock isn't enough for a change; it stays while the X is asked for.
func TestLockMadeAnX(t *testing.T) {
	d := newTester(t, conf)
	d.begin(1)
	d.has(1, 1, false, image(0, "a"))
	d.now(rollsBack, ok(1))
	d.says(api.Msg{Kind: api.MsgSpare, N: 2})
	d.begin(2)
	d.waits(update(1, 0, "b"), locks(1, true, false))
	d.hears(calls(1, false))
	d.hears(calls(1, true), inUse(1))
	d.hears(grant(1, true), space(5))
	d.late(room(5), ok(2))
	d.now(read(1, 0), api.Reply{Txn: txn(2), Data: "b"})
	d.now(rollsBack, ok(2))
	d.says(logs(change(2, 11, 0, 1, 0, rec("a"), rec("b")), undo(2, 12, 11, 1, 0, rec("b"), rec("a"), 0), end(2, 13, 12)), shows(1, image(12, "a")), frees(1, false))
}

// A lock that it has stays while the page is asked for: an X as an X only if it is wanted so.
func TestLockHadWithoutThePage(t *testing.T) {
	for _, x := range []api.Call{read(0, 0), update(0, 0, "b")} {
		for _, all := range []bool{false, true} {
			d := newTester(t, api.Config{Pages: 8, Cache: 1, First: 10})
			d.begin(1)
			d.has(1, 0, true, image(0, "a"))
			d.has(1, 1, true, api.Page{})
			d.now(rollsBack, ok(1))
			d.says(api.Msg{Kind: api.MsgSpare, N: 2})
			d.begin(2)
			full := x.Kind == api.CallUpdate
			d.waits(x, locks(0, full, true))
			switch {
			case full && !all:
				d.hears(calls(0, all), inUse(0))
				d.hears(gives(0, true, image(0, "a")), space(5))
				d.late(room(5), ok(2))
				d.now(rollsBack, ok(2))
				d.says(logs(change(2, 11, 0, 0, 0, rec("a"), rec("b")), undo(2, 12, 11, 0, 0, rec("b"), rec("a"), 0), end(2, 13, 12)), shows(0, image(12, "a")), frees(0, true))
			case full:
				d.hears(calls(0, all), inUse(0))
				d.hears(gives(0, true, image(0, "a")), space(5))
			case all:
				d.hears(calls(0, all), inUse(0))
				d.late(gives(0, true, image(0, "a")), api.Reply{Txn: txn(2), Data: "a"})
				d.hears(calls(0, false), frees(0, true))
				d.now(rollsBack, ok(2))
				d.says(api.Msg{Kind: api.MsgSpare, N: 2}, frees(0, false))
			default:
				d.hears(calls(0, all), frees(0, true))
				d.late(gives(0, true, image(0, "a")), api.Reply{Txn: txn(2), Data: "a"}) // the X was called back
				d.waits(update(0, 0, "b"), locks(0, true, false))
			}
		}
	}
}

// A lock that it hasn't isn't needed while it waits for it.
func TestLockNotHad(t *testing.T) {
	for _, x := range []api.Call{read(0, 0), update(0, 0, "b")} {
		d := newTester(t, conf)
		d.begin(1)
		d.waits(x, locks(0, x.Kind == api.CallUpdate, true))
		d.hears(calls(0, false))
		d.hears(calls(0, true))
	}
}

func TestGrantAsAnX(t *testing.T) {
	const page = 2
	has := func(d tester, want int) { // 1 shared, 2 as an X; it is let go then
		t.Helper()
		if want == 2 {
			d.hears(calls(page, false), frees(page, true))
		} else {
			d.hears(calls(page, false))
		}
		if want > 0 {
			d.hears(calls(page, true), frees(page, false))
		}
		d.hears(calls(page, true))
	}
	d := newTester(t, conf)
	d.hears(grant(page, true))
	has(d, 1) // nobody waits for it
	d.hears(grant(page, false))
	has(d, 1)
	d.begin(1)
	d.waits(read(page, 0), locks(page, false, true))
	d.late(gives(page, true, api.Page{}), fails(1, api.ErrNone))
	d.now(rollsBack, ok(1))
	d.Out()
	has(d, 1) // the call waits for it shared
	for _, stays := range []bool{true, false} {
		d.begin(2)
		d.has(2, page, true, api.Page{})
		d.now(rollsBack, ok(2))
		d.Out()
		d.hears(grant(page, stays))
		if stays {
			has(d, 2)
		} else {
			has(d, 1)
		}
		if stays {
			d = newTester(t, conf)
			d.begin(1)
			d.now(rollsBack, ok(1))
			d.Out()
		}
	}
	d = newTester(t, conf)
	d.begin(1)
	d.waits(insert(page, "a"), locks(page, true, true))
	d.hears(gives(page+1, true, api.Page{})) // another page's
	d.hears(calls(page+1, false))
	d.hears(gives(page, false, api.Page{}), locks(page, true, false)) // still no X: it asks anew
	d.hears(calls(page, true), inUse(page))
	d.hears(grant(page, true), space(5))
	d.late(room(5), ok(1))
	d.hears(calls(page, false), inUse(page))
	d.hears(grant(page, true))
	d.hears(calls(page, false), inUse(page))
}

func TestAsksAnew(t *testing.T) {
	d := newTester(t, api.Config{Pages: 8, Cache: 1, First: 10})
	d.begin(1)
	d.waits(read(1, 0), locks(1, false, true))
	d.hears(grant(1, false), locks(1, false, true)) // the page isn't there
	d.hears(calls(1, true), inUse(1))
	d.hears(grant(2, false))
	d.hears(gives(2, false, image(0, "b")))
	d.late(gives(1, false, image(0, "a")), api.Reply{Txn: txn(1), Data: "a"})
	d.waits(insert(1, "c"), locks(1, true, false))
	d.hears(gives(3, false, image(0, "d")))       // page 1 leaves for it
	d.hears(grant(1, true), locks(1, true, true)) // so that it is asked for anew
	d.hears(grant(1, true), locks(1, true, true)) // as often as need be
	d.hears(gives(1, false, image(0, "a")), locks(1, true, false))
	d.hears(grant(1, true), space(5))
	d.late(room(5), api.Reply{Txn: txn(1), Slot: 1})
}

func TestFramesPinned(t *testing.T) {
	d := newTester(t, api.Config{Pages: 8, Cache: 2, First: 10})
	d.begin(1)
	d.inserts(1, 0, "a")
	d.has(1, 1, true, api.Page{})
	d.has(1, 2, false, image(0, "c")) // page 1 leaves: only read so far
	d.waits(insert(1, "b"), locks(1, true, true))
	d.hears(gives(1, true, api.Page{}), space(5))
	d.hears(gives(3, false, api.Page{})) // no frame: page 1 is pinned while its call waits for room
	d.late(room(0), fails(1, api.ErrLogFull))
	d.hears(gives(3, false, image(0, "d"))) // not any more
	d.waits(read(1, 0), locks(1, false, true))
	d.late(gives(1, true, api.Page{}), fails(1, api.ErrNone))
	d.changes(1, insert(1, "b"), 5, 0)
	d.waits(read(4, 0), locks(4, false, true))
	d.late(gives(4, false, image(0, "e")), fails(1, api.ErrFull))
	d.says()
	d.hears(gives(5, false, image(0, "f")))
	d.now(read(0, 0), api.Reply{Txn: txn(1), Data: "a"})
	d.now(read(1, 0), api.Reply{Txn: txn(1), Data: "b"})
	d.hears(calls(4, true), frees(4, false)) // it is had, but not needed
	d.hears(calls(5, true), frees(5, false))
	d.hears(calls(3, true), frees(3, false))
	d.hears(calls(2, true), inUse(2))
	d.waits(read(2, 0), locks(2, false, true))
	d.late(gives(2, false, image(0, "c")), fails(1, api.ErrFull))
	d.waits(insert(2, "x"), locks(2, true, true))
	d.late(gives(2, true, image(0, "c")), fails(1, api.ErrFull))
	d.waits(insert(2, "x"), locks(2, true, true))
	d.hears(calls(2, false), inUse(2)) // the X that it has is needed now
	d.late(gives(2, true, image(0, "c")), fails(1, api.ErrFull))
	d.now(rollsBack, ok(1))
	list := d.Out()
	if len(list) != 2 || !sameMsgs(list[1:], []api.Msg{frees(2, false)}) || len(list[0].Entries) != 5 {
		t.Fatal(list)
	}
	d.begin(2)
	d.waits(read(4, 0), locks(4, false, true))
	d.late(gives(4, false, api.Page{}), fails(2, api.ErrNone)) // the frames are free again
	d.says(shows(0, image(14)))
}

// A page is pinned once, however often it is changed, also if the changes are undone.
func TestPinnedOnce(t *testing.T) {
	for _, ends := range []api.Call{commits, rollsBack} {
		d := newTester(t, api.Config{Pages: 8, Cache: 1, First: 10})
		d.begin(1)
		d.inserts(1, 0, "a")
		d.now(saves, api.Reply{Txn: txn(1), Slot: 1})
		for range 3 {
			d.changes(1, update(0, 0, "b"), 5, 0)
		}
		d.waits(update(0, 0, "b"), space(5))
		d.late(room(0), fails(1, api.ErrLogFull))
		d.now(back(1), api.Reply{Txn: txn(1), Slot: 1})
		d.waits(read(1, 0), locks(1, false, true))
		d.late(gives(1, false, api.Page{}), fails(1, api.ErrFull))
		if r, ok := d.Call(ends); !ok {
			d.late(sure(txn(1)), api.Reply{Txn: txn(1)})
		} else if r != (api.Reply{Txn: txn(1)}) {
			t.Fatal(r)
		}
		d.Out()
		d.begin(2)
		d.waits(read(1, 0), locks(1, false, true))
		d.late(gives(1, false, api.Page{}), fails(2, api.ErrNone))
		if l := d.Out(); len(l) != 1 || l[0].Kind != api.MsgImage || l[0].Page != 0 {
			t.Fatal(l)
		}
	}
}

// A page that leaves is sent first, with all entries that weren't sent; one that wasn't changed since isn't.
func TestPageLeaves(t *testing.T) {
	d := newTester(t, api.Config{Pages: 8, Cache: 2, First: 10})
	d.begin(1)
	d.inserts(1, 0, "a")
	d.commit(1, change(1, 11, 0, 0, 0, api.Slot{}, rec("a")), commit(1, 12, 11))
	d.begin(2)
	d.inserts(2, 1, "b")
	d.waits(read(2, 0), locks(2, false, true))
	d.late(gives(2, false, image(0, "c")), api.Reply{Txn: txn(2), Data: "c"})
	d.says(logs(change(2, 13, 0, 1, 0, api.Slot{}, rec("b"))), shows(0, image(11, "a")))
	d.waits(read(3, 0), locks(3, false, true))
	d.late(gives(3, false, image(0, "d")), api.Reply{Txn: txn(2), Data: "d"})
	d.says()
	d.waits(read(0, 0), locks(0, false, true))
	d.late(gives(0, true, image(11, "a")), api.Reply{Txn: txn(2), Data: "a"})
	d.says()
	d.now(rollsBack, ok(2))
	d.says(logs(undo(2, 14, 13, 1, 0, rec("b"), api.Slot{}, 0), end(2, 15, 14)))
	d.hears(calls(0, false), frees(0, true))
	d.hears(gives(4, false, api.Page{}), shows(1, image(14)))
	d.hears(calls(1, false), frees(1, true))
}

// What is at hand leaves by a clock, which passes once what was used.
func TestClock(t *testing.T) {
	d := newTester(t, conf)
	d.begin(1)
	for n := range 3 {
		d.has(1, n, false, image(0, fmt.Sprint(n)))
	}
	d.has(1, 3, false, image(0, "3")) // 0 leaves; 1 and 2 aren't fresh any more
	d.now(read(1, 0), api.Reply{Txn: txn(1), Data: "1"})
	d.has(1, 4, false, image(0, "4")) // 1 was used: 2 leaves
	d.now(read(1, 0), api.Reply{Txn: txn(1), Data: "1"})
	d.now(read(3, 0), api.Reply{Txn: txn(1), Data: "3"})
	d.now(read(4, 0), api.Reply{Txn: txn(1), Data: "4"})
	d.waits(read(2, 0), locks(2, false, true))
}

// P20.1: what the server calls back

func TestCalled(t *testing.T) {
	d := newTester(t, conf)
	d.begin(1)
	d.inserts(1, 1, "a")
	d.inserts(1, 2, "b")
	d.has(1, 3, false, image(0, "c"))
	none := api.Slot{}
	d.commit(1, change(1, 11, 0, 1, 0, none, rec("a")), change(1, 12, 11, 2, 0, none, rec("b")), commit(1, 13, 12))
	d.hears(calls(1, false), shows(1, image(11, "a")), frees(1, true))
	d.hears(calls(1, false))
	d.hears(calls(3, false))
	d.hears(calls(3, true), frees(3, false))
	d.hears(calls(2, true), shows(2, image(12, "b")), frees(2, false))
	d.hears(calls(2, true))
	d.begin(2)
	d.now(read(1, 0), api.Reply{Txn: txn(2), Data: "a"}) // it is at hand, shared
	d.waits(read(2, 0), locks(2, false, true))           // it isn't
	d.late(gives(2, false, image(30, "x")), api.Reply{Txn: txn(2), Data: "x"})
	d.hears(calls(1, true), inUse(1))
	d.hears(calls(1, true), inUse(1))
	d.hears(calls(2, false))
	d.waits(update(1, 0, "c"), locks(1, true, false))
	d.hears(grant(1, true), space(5))
	d.late(room(5), ok(2))
	d.hears(calls(1, false), inUse(1))
	d.hears(calls(2, true), inUse(2))
	d.commit(2, change(2, 14, 0, 1, 0, rec("a"), rec("c")), commit(2, 15, 14))
	d.says(shows(1, image(14, "c")), frees(1, false), frees(2, false))
	d.hears(calls(1, true))
	d.begin(3)
	d.waits(read(1, 0), locks(1, false, true))
}

// What is let go at the end is kept shared, if only the X was called; it stays at hand.
func TestLetGoAtTheEnd(t *testing.T) {
	d := newTester(t, conf)
	d.begin(1)
	d.inserts(1, 5, "a")
	d.inserts(1, 4, "b")
	d.has(1, 3, true, image(0, "c"))
	for n := 3; n < 6; n++ {
		d.hears(calls(n, false), inUse(n)) // has asked for the X
	}
	d.hears(calls(4, true), inUse(4))
	d.hears(calls(4, false), inUse(4))
	none := api.Slot{}
	d.commit(1, change(1, 11, 0, 5, 0, none, rec("a")), change(1, 12, 11, 4, 0, none, rec("b")), commit(1, 13, 12))
	d.says(frees(3, true), shows(4, image(12, "b")), frees(4, false), shows(5, image(11, "a")), frees(5, true))
	d.begin(2)
	d.now(read(3, 0), api.Reply{Txn: txn(2), Data: "c"})
	d.now(read(5, 0), api.Reply{Txn: txn(2), Data: "a"})
	d.waits(insert(5, "b"), locks(5, true, false))
	d.late(victim, fails(2, api.ErrVictim))
	d.says(api.Msg{Kind: api.MsgSpare, N: 2})
	d.begin(3)
	d.waits(read(4, 0), locks(4, false, true))
}

func TestNeedUnasked(t *testing.T) {
	d := newTester(t, conf)
	d.hears(gives(1, true, image(0, "a")))
	d.hears(gives(2, false, image(0, "b")))
	d.hears(grant(3, false))
	d.begin(1)
	d.now(read(1, 0), api.Reply{Txn: txn(1), Data: "a"})
	d.now(read(2, 0), api.Reply{Txn: txn(1), Data: "b"})
	d.hears(gives(2, false, image(0, "c")))
	d.now(read(2, 0), api.Reply{Txn: txn(1), Data: "c"})
	d.waits(insert(1, "x"), locks(1, true, false))
	d.hears(gives(1, true, image(9, "z")), space(5))
	d.late(room(5), api.Reply{Txn: txn(1), Slot: 1})
	d.waits(read(3, 0), locks(3, false, true))
}

func TestVictim(t *testing.T) {
	d := newTester(t, conf)
	d.begin(1)
	d.hears(victim)
	d.waits(read(3, 0), locks(3, false, true))
	d.late(victim, fails(1, api.ErrVictim))
	d.says(api.Msg{Kind: api.MsgSpare, N: 2})
	d.inTxn(api.Txn{}, false)
	d.waits(begins, wantsToEnd)
	d.hears(victim)
	d.late(room(2), ok(2))
	d.inserts(2, 1, "a")
	d.has(2, 2, false, image(0, "b"))
	d.waits(update(1, 0, "c"), space(5))
	d.hears(victim)
	d.late(room(5), ok(2))
	d.hears(calls(1, false), inUse(1))
	d.hears(calls(2, true), inUse(2))
	d.waits(update(2, 0, "c"), locks(2, true, false))
	d.late(victim, fails(2, api.ErrVictim))
	d.inTxn(api.Txn{}, false)
	none := api.Slot{}
	d.says(logs(
		change(2, 11, 0, 1, 0, none, rec("a")),
		change(2, 12, 11, 1, 0, rec("a"), rec("c")),
		undo(2, 13, 12, 1, 0, rec("c"), rec("a"), 11),
		undo(2, 14, 13, 1, 0, rec("a"), none, 0),
		end(2, 15, 14)), shows(1, image(14)), frees(1, true), frees(2, false))
	d.hears(victim)
	d.hears(grant(2, true)) // too late: nobody waits for it as an X
	d.hears(calls(2, false))
}

// P20.1: messages that aren't right, or that clients send

func TestHearWrong(t *testing.T) {
	d := newTester(t, conf)
	wrong := []api.Msg{
		{}, {Kind: -1}, {Kind: 14}, {Kind: math.MaxInt}, {Kind: math.MinInt},
		locks(1, true, true), frees(1, true), inUse(1), logs(commit(1, 1, 0)), shows(1, api.Page{}), wantsSure(txn(1)), space(1), {Kind: api.MsgSpare, N: 1},
		grant(-1, true), grant(1024, true), calls(-1, true), calls(1024, true), room(-1), room(1<<20 + 1), sure(api.Txn{}), sure(txn(0)),
		{Kind: api.MsgGrant, Image: image(1, "a")}, gives(1, true, image(-1)), gives(1, true, image(top+1)), gives(1, true, image(0, strings.Repeat("a", 201))),
		gives(1, true, api.Page{Slots: []api.Slot{{}}}),
		{Kind: api.MsgVictim, Page: 1}, {Kind: api.MsgRoom, X: true}, {Kind: api.MsgCall, Need: true}, {Kind: api.MsgSure, Txn: txn(1), N: 1},
		{Kind: api.MsgRoom, N: 2, Entries: []api.Entry{commit(1, 1, 0)}},
	}
	refuse := func() {
		t.Helper()
		for _, m := range wrong {
			if e := d.Hear(m); e != api.ErrArg {
				t.Fatalf("%+v: %d", m, e)
			}
		}
	}
	refuse()
	d.says()
	d.waits(begins, wantsToEnd)
	refuse()
	d.stillWaits()
	d.late(room(2), ok(1))
	d.waits(insert(1, "a"), locks(1, true, true))
	refuse()
	d.stillWaits()
	d.hears(gives(1, true, api.Page{}), space(5))
	refuse()
	d.stillWaits()
	d.late(room(5), ok(1))
	d.waits(commits, logs(change(1, 11, 0, 1, 0, api.Slot{}, rec("a")), commit(1, 12, 11)), wantsSure(txn(1)))
	refuse()
	d.stillWaits()
	d.late(sure(txn(1)), ok(1))
}

// Messages for which no call waits do nothing.
func TestHearInVain(t *testing.T) {
	d := newTester(t, conf)
	d.begin(1)
	d.waits(read(1, 0), locks(1, false, true))
	for _, m := range []api.Msg{room(0), room(5), sure(txn(1)), gives(2, false, api.Page{}), grant(3, true), calls(1, true)} {
		d.hears(m)
	}
	d.late(gives(1, false, image(0, "a")), api.Reply{Txn: txn(1), Data: "a"})
	d.waits(insert(2, "a"), locks(2, true, false))
	d.hears(grant(2, true), space(5))
	for _, m := range []api.Msg{sure(txn(1)), victim, grant(2, true), grant(1, false), gives(4, false, api.Page{})} {
		d.hears(m)
	}
	d.late(room(5), ok(1))
	for _, m := range []api.Msg{room(0), sure(txn(1)), victim} {
		d.hears(m)
	}
	d.inTxn(txn(1), true)
	d.now(read(2, 0), api.Reply{Txn: txn(1), Data: "a"})
}

// P20.1: whatever image comes, what goes out can be

func TestImageBeneathAChange(t *testing.T) {
	d := newTester(t, conf)
	d.begin(1)
	d.inserts(1, 1, "a")
	d.inserts(1, 2, "b")
	d.changes(1, insert(1, "c"), 5, 1)
	d.changes(1, insert(2, "d"), 5, 1)
	d.hears(gives(1, true, image(40, "x", "y")))
	d.now(read(1, 0), api.Reply{Txn: txn(1), Data: "x"})
	none := api.Slot{}
	d.now(rollsBack, ok(1)) // the change of page 2 is undone, then that of page 1 can't be
	d.says(logs(
		change(1, 11, 0, 1, 0, none, rec("a")),
		change(1, 12, 11, 2, 0, none, rec("b")),
		change(1, 13, 12, 1, 1, none, rec("c")),
		change(1, 14, 13, 2, 1, none, rec("d")),
		undo(1, 15, 14, 2, 1, rec("d"), none, 13),
		end(1, 16, 15)))
	d.inTxn(api.Txn{}, false)
	d.begin(2)
	d.changes(2, insert(1, "z"), 5, 2)
	d.commit(2, change(2, 41, 0, 1, 2, none, rec("z")), commit(2, 42, 41))
}

// The same at a savepoint: what could be undone is; once the image can be, it goes on there.
func TestImageBeneathASavepoint(t *testing.T) {
	d := newTester(t, conf)
	d.begin(1)
	d.now(saves, api.Reply{Txn: txn(1), Slot: 1})
	d.inserts(1, 1, "a")
	d.changes(1, insert(1, "b"), 5, 1)
	d.inserts(1, 2, "c")
	d.hears(gives(1, true, image(12, "a", "x")))
	d.now(saves, api.Reply{Txn: txn(1), Slot: 2})
	d.now(back(1), api.Reply{Txn: txn(1), Slot: 1})
	d.now(back(2), fails(1, api.ErrSave))
	d.now(read(2, 0), fails(1, api.ErrNone))
	d.now(read(1, 1), api.Reply{Txn: txn(1), Data: "x"})
	d.changes(1, insert(2, "d"), 5, 0)
	d.hears(gives(1, true, image(12, "a", "b")))
	d.now(rollsBack, ok(1))
	none := api.Slot{}
	d.says(logs(
		change(1, 11, 0, 1, 0, none, rec("a")),
		change(1, 12, 11, 1, 1, none, rec("b")),
		change(1, 13, 12, 2, 0, none, rec("c")),
		undo(1, 14, 13, 2, 0, rec("c"), none, 12),
		change(1, 15, 14, 2, 0, none, rec("d")),
		undo(1, 16, 15, 2, 0, rec("d"), none, 14),
		undo(1, 17, 16, 1, 1, rec("b"), none, 11),
		undo(1, 18, 17, 1, 0, rec("a"), none, 0),
		end(1, 19, 18)))
}

// An image that comes while a call waits for room: the change is one of that image.
func TestImageBeneathACall(t *testing.T) {
	none := api.Slot{}
	wait := func(x api.Call, p api.Page) tester {
		d := newTester(t, conf)
		d.begin(1)
		d.waits(x, locks(1, true, true))
		d.hears(gives(1, true, image(3, "a", "b")), space(5))
		d.hears(gives(1, true, p))
		return d
	}
	d := wait(insert(1, "c"), image(50, "a", "b", "x"))
	d.late(room(5), api.Reply{Txn: txn(1), Slot: 3})
	d.commit(1, change(1, 51, 0, 1, 3, none, rec("c")), commit(1, 52, 51))
	d = wait(update(1, 1, "c"), image(50, "a"))
	d.late(room(5), fails(1, api.ErrNone))
	d = wait(insert(1, "c"), image(most, "a"))
	d.late(room(5), fails(1, api.ErrLast))
	d = wait(insert(1, "c"), image(50, slices.Repeat([]string{""}, 32)...))
	d.late(room(5), fails(1, api.ErrPageFull))
	long := strings.Repeat("c", 200)
	d = wait(update(1, 1, long), image(50, "", strings.Repeat("x", 200)))
	d.hears(room(5), space(6))
	d.hears(gives(2, false, api.Page{}))
	d.hears(gives(3, false, api.Page{}))
	d.hears(gives(4, false, api.Page{}))
	d.late(room(6), api.Reply{Txn: txn(1), Slot: 1})
	d.now(read(1, 1), api.Reply{Txn: txn(1), Data: long})
	d.hears(calls(1, true), inUse(1))
}

// Images with the greatest numbers: what can't have a number is left out.
func TestImageAtTheEndOfNumbers(t *testing.T) {
	none := api.Slot{}
	start := func(lsn int) tester {
		d := newTester(t, conf)
		d.begin(1)
		d.now(saves, api.Reply{Txn: txn(1), Slot: 1})
		d.inserts(1, 1, "a")
		d.changes(1, insert(1, "b"), 5, 1)
		d.hears(gives(1, true, image(lsn, "a", "b")))
		return d
	}
	a, b := change(1, 11, 0, 1, 0, none, rec("a")), change(1, 12, 11, 1, 1, none, rec("b"))
	d := start(top)
	d.now(rollsBack, ok(1))
	d.says(logs(a, b, end(1, 13, 12)))
	d = start(top - 1)
	d.now(rollsBack, ok(1))
	d.says(logs(a, b, undo(1, top, 12, 1, 1, rec("b"), none, 11)))
	d.inTxn(api.Txn{}, false)
	d.now(begins, api.Reply{Code: api.ErrLast})
	d = start(top - 2)
	d.now(rollsBack, ok(1))
	d.says(logs(a, b, undo(1, top-1, 12, 1, 1, rec("b"), none, 11), undo(1, top, top-1, 1, 0, rec("a"), none, 0)))
	d = start(top - 3)
	d.now(rollsBack, ok(1))
	d.says(logs(a, b, undo(1, top-2, 12, 1, 1, rec("b"), none, 11), undo(1, top-1, top-2, 1, 0, rec("a"), none, 0), end(1, top, top-1)))
	d = start(top - 3)
	d.now(back(1), api.Reply{Txn: txn(1), Slot: 1})
	d.commit(1, a, b, undo(1, top-2, 12, 1, 1, rec("b"), none, 11), undo(1, top-1, top-2, 1, 0, rec("a"), none, 0), commit(1, top, top-1))
	d = start(top - 2)
	d.now(back(1), api.Reply{Txn: txn(1), Slot: 1})
	d.now(commits, fails(1, api.ErrLast))
	d.inTxn(txn(1), true)
	d.now(rollsBack, ok(1))
	d.says(logs(a, b, undo(1, top-1, 12, 1, 1, rec("b"), none, 11), undo(1, top, top-1, 1, 0, rec("a"), none, 0)))
}

// A long transaction is undone in no more time than it took.
func TestLongTransaction(t *testing.T) {
	d := newTester(t, conf)
	d.begin(1)
	d.has(1, 1, true, api.Page{})
	const count = 20000
	for n := range count {
		x := update(1, 0, "b")
		if n == 0 {
			x = insert(1, "a")
		}
		d.changes(1, x, 5, 0)
	}
	d.now(saves, api.Reply{Txn: txn(1), Slot: 1})
	d.changes(1, insert(1, "c"), 5, 1)
	d.now(back(1), api.Reply{Txn: txn(1), Slot: 1})
	d.now(rollsBack, ok(1))
	var list []api.Entry
	for _, m := range d.Out() {
		list = append(list, m.Entries...)
	}
	last := len(list) - 1
	if last != 2*count+2 || list[last] != end(1, 11+last, 10+last) || list[last-1].Is.Used || list[last-1].Next != 0 {
		t.Error(last, list[last-1:])
	}
}

// P20.1: what was told is told once, in order

func TestToldOnce(t *testing.T) {
	d := newTester(t, conf)
	d.Call(begins)
	d.hear(room(2))
	d.Call(read(1, 0))
	d.hear(gives(1, false, image(0, "a")))
	d.Call(read(2, 0))
	if l := d.Out(); !sameMsgs(l, []api.Msg{wantsToEnd, locks(1, false, true), locks(2, false, true)}) {
		t.Error(l)
	}
	if l := d.Out(); len(l) != 0 {
		t.Error(l)
	}
	for _, want := range []api.Reply{ok(1), {Txn: txn(1), Data: "a"}} {
		if r, ok := d.Late(); r != want || !ok {
			t.Error(r, ok)
		}
	}
	d.stillWaits()
	d.Reset(8)
	if r, ok := d.Late(); r != fails(1, api.ErrReset) || !ok {
		t.Error(r, ok)
	}
	d.quiet()
}

// P20.2

func TestResetWrong(t *testing.T) {
	d := newTester(t, conf)
	d.begin(1)
	d.has(1, 1, true, image(0, "a"))
	d.waits(insert(2, "a"), locks(2, true, true))
	for _, epoch := range []int{-1, 0, 1, 6, 7, 1<<30 + 1, math.MaxInt, math.MinInt} {
		if e := d.Reset(epoch); e != api.ErrArg {
			t.Error(epoch, e)
		}
	}
	d.stillWaits()
	d.hears(calls(1, true), inUse(1))
	d.hears(gives(2, true, api.Page{}), space(5))
	d.late(room(5), ok(1))
	if e := d.Reset(1 << 30); e != api.OK {
		t.Error(e)
	}
	if e := d.Reset(1 << 30); e != api.ErrArg {
		t.Error(e)
	}
	if e := d.Reset(1<<30 + 1); e != api.ErrArg {
		t.Error(e)
	}
}

func (d tester) reset(epoch int) {
	d.t.Helper()
	if e := d.Reset(epoch); e != api.OK {
		d.t.Fatal(e)
	}
	d.inTxn(api.Txn{}, false)
	if d.Busy() {
		d.t.Fatal("busy")
	}
	d.says()
}

// beginIn begins a transaction of another epoch.
func (d tester) beginIn(epoch, n int) api.Txn {
	d.t.Helper()
	name := api.Txn{Client: client, Epoch: epoch, N: n}
	d.waits(begins, wantsToEnd)
	d.late(room(2), api.Reply{Txn: name})
	return name
}

func TestReset(t *testing.T) {
	d := newTester(t, conf)
	d.reset(9)
	name := d.beginIn(9, 1)
	if r, ok := d.Call(rollsBack); r != (api.Reply{Txn: name}) || !ok {
		t.Fatal(r)
	}
	d.reset(12) // what was to be sent is gone, and there was no transaction
	name = d.beginIn(12, 1)
	d.Call(insert(1, "a"))
	d.hear(gives(1, true, api.Page{}))
	d.hear(room(5))
	d.Late()
	d.Call(saves)
	d.reset(13)
	d.reset(14)
	if r, ok := d.Call(begins); r != (api.Reply{Code: api.ErrReset, Txn: name}) || !ok {
		t.Fatal(r)
	}
	d.says()
	d.now(read(1, 0), outside)
	d.hears(calls(1, true)) // no lock
	name = d.beginIn(14, 1)
	d.now(back(1), api.Reply{Code: api.ErrSave, Txn: name})
	d.waits(read(1, 0), locks(1, false, true)) // no page
	d.late(gives(1, false, image(11, "b")), api.Reply{Txn: name, Data: "b"})
	d.waits(commits, logs(api.Entry{Kind: api.Commit, Txn: name, Lsn: 12}), wantsSure(name)) // the Lsn goes on
	d.late(sure(name), api.Reply{Txn: name})
	d.beginIn(14, 2)
}

func TestResetIsTheNextAnswer(t *testing.T) {
	for _, x := range []api.Call{{}, {Kind: 10}, begins, read(1, 0), insert(-1, ""), saves, back(1), commits, rollsBack} {
		d := newTester(t, conf)
		d.begin(1)
		d.inserts(1, 1, "a")
		d.reset(8)
		d.now(x, fails(1, api.ErrReset))
		d.now(rollsBack, outside)
		d.beginIn(8, 1)
	}
}

// A call that waits, for whatever it is, is told; the next one isn't.
func TestResetOfACallThatWaits(t *testing.T) {
	states := []func(d tester){
		func(d tester) { d.waits(read(1, 0), locks(1, false, true)) },
		func(d tester) {
			d.has(1, 1, true, api.Page{})
			d.waits(insert(1, "a"), space(5))
		},
		func(d tester) { d.waits(commits, logs(commit(1, 11, 0)), wantsSure(txn(1))) },
	}
	for k, state := range states {
		d := newTester(t, conf)
		d.begin(1)
		state(d)
		d.reset(8)
		if r, ok := d.Late(); r != fails(1, api.ErrReset) || !ok {
			t.Fatal(k, r)
		}
		d.quiet()
		d.now(rollsBack, outside)
		d.hears(sure(txn(1)))
		d.hears(room(5))
		d.beginIn(8, 1)
	}
	d := newTester(t, conf)
	d.waits(begins, wantsToEnd)
	d.reset(8)
	if r, ok := d.Late(); r != (api.Reply{Code: api.ErrReset}) || !ok {
		t.Fatal(r)
	}
	d.quiet()
	d.hears(room(2))
	d.beginIn(8, 1)
}

// Frames that were pinned are vacant behind a Reset.
func TestResetLetsPinsGo(t *testing.T) {
	d := newTester(t, api.Config{Pages: 8, Cache: 1, First: 10})
	d.begin(1)
	d.inserts(1, 1, "a")
	d.reset(8)
	d.now(begins, fails(1, api.ErrReset))
	name := d.beginIn(8, 1)
	d.waits(read(2, 0), locks(2, false, true))
	d.late(gives(2, false, image(0, "b")), api.Reply{Txn: name, Data: "b"})
	d.says()
}

// P20.4: new memory

func TestNewMemory(t *testing.T) {
	d := newTester(t, conf)
	d.begin(1)
	mine := image(0, "a", "b")
	mine.Slots = slices.Grow(mine.Slots, 10)
	d.waits(insert(1, "c"), locks(1, true, true))
	d.hears(gives(1, true, mine), space(5))
	mine.Slots[0], mine.Slots[1] = rec("x"), rec("y")
	d.late(room(5), api.Reply{Txn: txn(1), Slot: 2})
	if whole := mine.Slots[:cap(mine.Slots)]; whole[2] != (api.Slot{}) || whole[0] != rec("x") {
		t.Error(whole)
	}
	d.now(read(1, 0), api.Reply{Txn: txn(1), Data: "a"})
	for range 20 {
		d.changes(1, update(1, 0, "a"), 5, 0)
	}
	d.Call(commits)
	list := d.Out()
	if len(list) != 3 {
		t.Fatal(list)
	}
	second := slices.Clone(list[1].Entries)
	_ = append(list[0].Entries, api.Entry{})
	list[0].Entries[0] = api.Entry{}
	if !slices.Equal(second, list[1].Entries) {
		t.Error("lists that share")
	}
	d.late(sure(txn(1)), ok(1))
	d.hear(calls(1, false))
	list = d.Out()
	list[0].Image.Slots[0] = rec("z")
	_ = append(list[0].Image.Slots, rec("z"))
	list[0] = api.Msg{}
	d.begin(2)
	d.now(read(1, 0), api.Reply{Txn: txn(2), Data: "a"})
	d.now(read(1, 2), api.Reply{Txn: txn(2), Data: "c"})
	d.now(rollsBack, ok(2))
	d.says(api.Msg{Kind: api.MsgSpare, N: 2})
	d.hears(calls(1, true), frees(1, false))
}
