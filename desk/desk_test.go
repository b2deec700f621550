package desk_test

import (
	"math"
	"reflect"
	"slices"
	"strings"
	"testing"

	"seneschal/api"
	"seneschal/desk"
)

const (
	top    = 1 << 40
	most   = top - 1<<20 // the greatest Lsn of a change
	client = 2
	epoch  = 7
)

var conf = api.Config{Pages: 8, Cache: 3, First: 10}

func rec(s string) api.Slot { return api.Slot{Used: true, Data: s} }

func recs(list ...string) []api.Slot {
	var slots []api.Slot
	for _, s := range list {
		slots = append(slots, rec(s))
	}
	return slots
}

func image(lsn int, list ...string) api.Page { return api.Page{Lsn: lsn, Slots: recs(list...)} }

func txn(n int) api.Txn { return api.Txn{Client: client, Epoch: epoch, N: n} }

func change(n, lsn, prev, page, slot int, was, is api.Slot) api.Entry {
	return api.Entry{Kind: api.Change, Txn: txn(n), Lsn: lsn, Prev: prev, Page: page, Slot: slot, Was: was, Is: is}
}

func undo(n, lsn, prev, page, slot int, was, is api.Slot, next int) api.Entry {
	return api.Entry{Kind: api.Undo, Txn: txn(n), Lsn: lsn, Prev: prev, Page: page, Slot: slot, Was: was, Is: is, Next: next}
}

func commit(n, lsn, prev int) api.Entry {
	return api.Entry{Kind: api.Commit, Txn: txn(n), Lsn: lsn, Prev: prev}
}

func end(n, lsn, prev int) api.Entry {
	return api.Entry{Kind: api.End, Txn: txn(n), Lsn: lsn, Prev: prev}
}

func read(page, slot int) api.Call { return api.Call{Kind: api.CallRead, Page: page, Slot: slot} }

func insert(page int, data string) api.Call {
	return api.Call{Kind: api.CallInsert, Page: page, Data: data}
}

func update(page, slot int, data string) api.Call {
	return api.Call{Kind: api.CallUpdate, Page: page, Slot: slot, Data: data}
}

func remove(page, slot int) api.Call {
	return api.Call{Kind: api.CallDelete, Page: page, Slot: slot}
}

func back(slot int) api.Call { return api.Call{Kind: api.CallBack, Slot: slot} }

var (
	begins     = api.Call{Kind: api.CallBegin}
	saves      = api.Call{Kind: api.CallSave}
	commits    = api.Call{Kind: api.CallCommit}
	rollsBack  = api.Call{Kind: api.CallRollback}
	victim     = api.Msg{Kind: api.MsgVictim}
	wantsToEnd = api.Msg{Kind: api.MsgSpace, N: 2}
)

func grant(page int, x bool) api.Msg { return api.Msg{Kind: api.MsgGrant, Page: page, X: x} }

func gives(page int, x bool, p api.Page) api.Msg {
	return api.Msg{Kind: api.MsgGrant, Page: page, X: x, Need: true, Image: p}
}

func calls(page int, all bool) api.Msg { return api.Msg{Kind: api.MsgCall, Page: page, X: all} }

func room(n int) api.Msg { return api.Msg{Kind: api.MsgRoom, N: n} }

func sure(t api.Txn) api.Msg { return api.Msg{Kind: api.MsgSure, Txn: t} }

func locks(page int, x, need bool) api.Msg {
	return api.Msg{Kind: api.MsgLock, Page: page, X: x, Need: need}
}

func space(n int) api.Msg { return api.Msg{Kind: api.MsgSpace, N: n} }

func frees(page int, keep bool) api.Msg { return api.Msg{Kind: api.MsgFree, Page: page, X: keep} }

func inUse(page int) api.Msg { return api.Msg{Kind: api.MsgInUse, Page: page} }

func logs(list ...api.Entry) api.Msg { return api.Msg{Kind: api.MsgLog, Entries: list} }

func shows(page int, p api.Page) api.Msg {
	return api.Msg{Kind: api.MsgImage, Page: page, Image: p}
}

func wantsSure(t api.Txn) api.Msg { return api.Msg{Kind: api.MsgCommit, Txn: t} }

// tester is a client under test, whose failures end the test.
type tester struct {
	*desk.Desk
	t *testing.T
}

func newTester(t *testing.T, c api.Config) tester {
	t.Helper()
	d := desk.New(client, epoch, c)
	if d == nil {
		t.Fatal("no client")
	}
	return tester{d, t}
}

// now: a call is answered at once.
func (d tester) now(x api.Call, want api.Reply) {
	d.t.Helper()
	if r, ok := d.Call(x); !ok || r != want {
		d.t.Fatalf("Call(%+v): %+v, %t, wanted %+v", x, r, ok, want)
	}
	d.quiet()
}

// says: what is to be sent is this.
func (d tester) says(want ...api.Msg) {
	d.t.Helper()
	if list := d.Out(); !sameMsgs(list, want) {
		d.t.Fatalf("Out: %+v, wanted %+v", list, want)
	}
}

// waits: a call waits, and this is to be sent.
func (d tester) waits(x api.Call, want ...api.Msg) {
	d.t.Helper()
	if r, ok := d.Call(x); ok || r != (api.Reply{}) {
		d.t.Fatalf("Call(%+v): %+v, %t", x, r, ok)
	}
	d.stillWaits(want...)
}

func (d tester) stillWaits(want ...api.Msg) {
	d.t.Helper()
	if r, ok := d.Late(); ok || !d.Busy() || r != (api.Reply{}) {
		d.t.Fatalf("Late: %+v, %t; busy: %t", r, ok, d.Busy())
	}
	d.says(want...)
}

// quiet: no call waits, and no reply is there.
func (d tester) quiet() {
	d.t.Helper()
	if r, ok := d.Late(); ok || d.Busy() || r != (api.Reply{}) {
		d.t.Fatalf("Late: %+v, %t; busy: %t", r, ok, d.Busy())
	}
}

func (d tester) hear(m api.Msg) {
	d.t.Helper()
	if e := d.Hear(m); e != api.OK {
		d.t.Fatalf("Hear(%+v): %d", m, e)
	}
}

// late: a message comes, with which the call that waits is answered.
func (d tester) late(m api.Msg, want api.Reply) {
	d.t.Helper()
	d.hear(m)
	if d.Busy() {
		d.t.Fatal("busy")
	}
	if r, ok := d.Late(); !ok || r != want {
		d.t.Fatalf("Late behind %+v: %+v, %t, wanted %+v", m, r, ok, want)
	}
	d.quiet()
}

// hears: a message comes that answers no call; this is to be sent then.
func (d tester) hears(m api.Msg, want ...api.Msg) {
	d.t.Helper()
	busy := d.Busy()
	d.hear(m)
	if r, ok := d.Late(); ok || d.Busy() != busy {
		d.t.Fatalf("Late behind %+v: %+v, %t; busy: %t", m, r, ok, d.Busy())
	}
	d.says(want...)
}

// begin begins the transaction of a number.
func (d tester) begin(n int) {
	d.t.Helper()
	d.waits(begins, wantsToEnd)
	d.late(room(2), api.Reply{Txn: txn(n)})
	d.says()
}

// has gets the lock of a page, and the page, by a call that finds nothing there.
func (d tester) has(n, page int, x bool, p api.Page) {
	d.t.Helper()
	at := read(page, 31)
	if x {
		at = remove(page, 31)
	}
	d.waits(at, locks(page, x, true))
	d.late(gives(page, x, p), api.Reply{Code: api.ErrNone, Txn: txn(n)})
	d.says()
}

// changes: a call that changes a page of which it has the lock.
func (d tester) changes(n int, x api.Call, cost, slot int) {
	d.t.Helper()
	d.waits(x, space(cost))
	d.late(room(cost), api.Reply{Txn: txn(n), Slot: slot})
	d.says()
}

// inserts: the same of the lock, the page, and a record.
func (d tester) inserts(n, page int, data string) {
	d.t.Helper()
	d.has(n, page, true, api.Page{})
	d.changes(n, insert(page, data), 5, 0)
}

// commit ends the transaction; these entries are sent.
func (d tester) commit(n int, list ...api.Entry) {
	d.t.Helper()
	d.waits(commits, logs(list...), wantsSure(txn(n)))
	d.late(sure(txn(n)), api.Reply{Txn: txn(n)})
}

func (d tester) inTxn(want api.Txn, some bool) {
	d.t.Helper()
	if name, ok := d.Txn(); name != want || ok != some {
		d.t.Fatalf("Txn: %+v, %t, wanted %+v, %t", name, ok, want, some)
	}
}

func sameMsgs(x, y []api.Msg) bool {
	return slices.EqualFunc(x, y, func(a, b api.Msg) bool {
		return reflect.DeepEqual(bare(a), bare(b))
	})
}

// bare: a message whose lists, if they hold nothing, are nil.
func bare(m api.Msg) api.Msg {
	if len(m.Entries) == 0 {
		m.Entries = nil
	}
	if len(m.Image.Slots) == 0 {
		m.Image.Slots = nil
	}
	return m
}

func ok(n int) api.Reply { return api.Reply{Txn: txn(n)} }

func fails(n int, e api.Errno) api.Reply { return api.Reply{Code: e, Txn: txn(n)} }

var outside = api.Reply{Code: api.ErrState}

// P20.1: New

func TestNew(t *testing.T) {
	type of struct {
		client, epoch int
		c             api.Config
	}
	least := api.Config{Pages: 1, Cache: 1}
	greatest := api.Config{Pages: 1024, Cache: 64, First: top}
	unread := api.Config{Clients: -1, Pages: 3, Log: -5, Cache: 3, Pool: -7}
	for _, x := range []of{{1, 1, least}, {8, 1 << 30, greatest}, {1, 1, unread}, {3, 5, api.Config{Clients: 2, Pages: 1, Cache: 1}}} {
		if desk.New(x.client, x.epoch, x.c) == nil {
			t.Error(x)
		}
	}
	for _, x := range []of{
		{0, 1, least}, {9, 1, least}, {-1, 1, least}, {math.MaxInt, 1, least}, {math.MinInt, 1, least},
		{1, 0, least}, {1, -1, least}, {1, 1<<30 + 1, least}, {1, math.MaxInt, least}, {1, math.MinInt, least},
		{1, 1, api.Config{}},
		{1, 1, api.Config{Pages: 0, Cache: 1}}, {1, 1, api.Config{Pages: -1, Cache: 1}}, {1, 1, api.Config{Pages: 1025, Cache: 1}},
		{1, 1, api.Config{Pages: 1, Cache: 0}}, {1, 1, api.Config{Pages: 1, Cache: -1}}, {1, 1, api.Config{Pages: 1, Cache: 65}},
		{1, 1, api.Config{Pages: 1, Cache: 1, First: -1}}, {1, 1, api.Config{Pages: 1, Cache: 1, First: top + 1}},
		{1, 1, api.Config{Pages: math.MaxInt, Cache: math.MaxInt, First: math.MaxInt}},
	} {
		if desk.New(x.client, x.epoch, x.c) != nil {
			t.Error(x)
		}
	}
}

func TestNewHasNothing(t *testing.T) {
	d := newTester(t, conf)
	d.inTxn(api.Txn{}, false)
	d.quiet()
	d.says()
	for page := range 8 {
		d.hears(calls(page, true))
		d.hears(calls(page, false))
	}
	for _, m := range []api.Msg{victim, room(0), room(5), sure(txn(1))} {
		d.hears(m)
	}
	d.inTxn(api.Txn{}, false)
	for kind := api.CallRead; kind <= api.CallRollback; kind++ {
		d.now(api.Call{Kind: kind, Page: 1, Slot: 1}, outside)
	}
}

func TestNil(t *testing.T) {
	var d *desk.Desk
	for _, x := range []api.Call{{}, begins, read(0, 0), commits} {
		if r, ok := d.Call(x); r != (api.Reply{Code: api.ErrNil}) || !ok {
			t.Error(r, ok)
		}
	}
	if r, ok := d.Late(); r != (api.Reply{}) || ok {
		t.Error(r, ok)
	}
	if d.Busy() || len(d.Out()) != 0 {
		t.Error("busy")
	}
	for _, m := range []api.Msg{{}, victim, {Kind: api.MsgLock}} {
		if e := d.Hear(m); e != api.ErrNil {
			t.Error(e)
		}
	}
	for _, epoch := range []int{-1, 0, 1, 1 << 31} {
		if e := d.Reset(epoch); e != api.ErrNil {
			t.Error(e)
		}
	}
	if x, ok := d.Txn(); x != (api.Txn{}) || ok {
		t.Error(x, ok)
	}
}

// P20.1: calls

func TestCodesAtOnce(t *testing.T) {
	long := strings.Repeat("a", 201)
	d := newTester(t, conf)
	for _, kind := range []int{0, -1, 10, math.MaxInt, math.MinInt} {
		d.now(api.Call{Kind: kind, Page: 1}, api.Reply{Code: api.ErrArg})
	}
	for _, x := range []api.Call{read(-1, -1), read(8, 0), insert(8, long), update(8, 32, long), remove(8, 32), back(0)} {
		d.now(x, outside)
	}
	d.begin(1)
	for _, kind := range []int{0, -1, 10, math.MaxInt, math.MinInt} {
		d.now(api.Call{Kind: kind, Page: 1}, fails(1, api.ErrArg))
	}
	d.now(begins, fails(1, api.ErrState))
	for _, page := range []int{-1, 8, 1023, math.MaxInt, math.MinInt} {
		for _, x := range []api.Call{read(page, 0), insert(page, "a"), insert(page, long), update(page, 0, long), update(page, 0, "a"), remove(page, 0)} {
			d.now(x, fails(1, api.ErrArg))
		}
	}
	for _, slot := range []int{-1, 32, math.MaxInt, math.MinInt} {
		for _, x := range []api.Call{read(1, slot), update(1, slot, "a"), update(1, slot, long), remove(1, slot)} {
			d.now(x, fails(1, api.ErrArg))
		}
		d.now(back(slot), fails(1, api.ErrSave))
	}
	d.now(insert(1, long), fails(1, api.ErrLong))
	d.now(update(1, 31, long), fails(1, api.ErrLong))
	d.says()
	d.now(rollsBack, ok(1))
	d.says(api.Msg{Kind: api.MsgSpare, N: 2})
}

// Fields that a call doesn't name aren't read.
func TestUnreadFields(t *testing.T) {
	long := strings.Repeat("a", 201)
	with := func(kind, page, slot int) api.Call {
		return api.Call{Kind: kind, Page: page, Slot: slot, Data: long}
	}
	d := newTester(t, conf)
	d.waits(with(api.CallBegin, -1, -1), wantsToEnd)
	d.late(room(2), ok(1))
	d.now(with(api.CallSave, -1, -1), api.Reply{Txn: txn(1), Slot: 1})
	d.now(with(api.CallBack, -1, 1), api.Reply{Txn: txn(1), Slot: 1})
	d.waits(with(api.CallRead, 0, 0), locks(0, false, true))
	d.late(gives(0, false, api.Page{}), fails(1, api.ErrNone))
	d.waits(with(api.CallDelete, 7, 31), locks(7, true, true))
	d.late(gives(7, true, api.Page{}), fails(1, api.ErrNone))
	d.waits(api.Call{Kind: api.CallInsert, Page: 7, Slot: -1, Data: "a"}, space(5))
	d.late(room(5), ok(1))
	d.waits(with(api.CallCommit, -1, -1), logs(change(1, 11, 0, 7, 0, api.Slot{}, rec("a")), commit(1, 12, 11)), wantsSure(txn(1)))
	d.late(sure(txn(1)), ok(1))
	d.begin(2)
	d.now(with(api.CallRollback, -1, -1), ok(2))
}

func TestBusy(t *testing.T) {
	others := []api.Call{{}, begins, read(0, 0), insert(-1, ""), saves, back(1), commits, rollsBack}
	d := newTester(t, conf)
	d.waits(begins, wantsToEnd)
	busy := func(want api.Reply) {
		t.Helper()
		for _, x := range others {
			if r, ok := d.Call(x); r != want || !ok {
				t.Fatalf("%+v: %+v, %t", x, r, ok)
			}
			d.stillWaits()
		}
	}
	busy(api.Reply{Code: api.ErrBusy})
	d.late(room(2), ok(1))
	d.waits(insert(3, "a"), locks(3, true, true))
	busy(fails(1, api.ErrBusy))
	d.hears(gives(3, true, api.Page{}), space(5))
	busy(fails(1, api.ErrBusy))
	d.late(room(5), ok(1))
	d.waits(commits, logs(change(1, 11, 0, 3, 0, api.Slot{}, rec("a")), commit(1, 12, 11)), wantsSure(txn(1)))
	busy(fails(1, api.ErrBusy))
	d.late(sure(txn(1)), ok(1))
}

func TestBegin(t *testing.T) {
	d := newTester(t, conf)
	d.waits(begins, wantsToEnd)
	d.inTxn(api.Txn{}, false)
	d.late(room(0), api.Reply{Code: api.ErrLogFull})
	d.inTxn(api.Txn{}, false)
	d.now(read(0, 0), outside)
	d.waits(begins, wantsToEnd)
	d.late(room(1), ok(1))
	d.inTxn(txn(1), true)
	d.hears(room(0))
	d.inTxn(txn(1), true)
	d.now(rollsBack, ok(1))
	d.says(api.Msg{Kind: api.MsgSpare, N: 2})
	d.inTxn(api.Txn{}, false)
	d.begin(2)
	d.commit(2, commit(2, 11, 0))
	d.inTxn(api.Txn{}, false)
	d.says()
	d.waits(begins, wantsToEnd)
	d.late(room(1<<20), ok(3))
}

func TestBeginAtTheEndOfNumbers(t *testing.T) {
	for first, want := range map[int]bool{most - 1: true, most: true, most + 1: false, top: false} {
		d := newTester(t, api.Config{Pages: 1, Cache: 1, First: first})
		if want {
			d.begin(1)
			d.now(begins, fails(1, api.ErrState))
		} else {
			d.now(begins, api.Reply{Code: api.ErrLast})
		}
	}
	d := newTester(t, api.Config{Pages: 1, Cache: 1, First: most})
	d.begin(1)
	d.commit(1, commit(1, most+1, 0))
	d.now(begins, api.Reply{Code: api.ErrLast})
}

func TestRead(t *testing.T) {
	d := newTester(t, conf)
	d.begin(1)
	p := api.Page{Lsn: 5, Slots: []api.Slot{rec("a"), {}, rec(""), rec("\x00\xff")}}
	d.waits(read(4, 3), locks(4, false, true))
	d.late(gives(4, false, p), api.Reply{Txn: txn(1), Data: "\x00\xff"})
	for slot, want := range []api.Reply{{Txn: txn(1), Data: "a"}, fails(1, api.ErrNone), ok(1), {Txn: txn(1), Data: "\x00\xff"}, fails(1, api.ErrNone)} {
		d.now(read(4, slot), want)
	}
	d.now(read(4, 31), fails(1, api.ErrNone))
	d.says()
	d.waits(commits, logs(commit(1, 11, 0)), wantsSure(txn(1)))
	d.late(sure(txn(1)), ok(1))
	d.says()
	d.begin(2)
	d.now(read(4, 0), api.Reply{Txn: txn(2), Data: "a"})
}

func TestChanges(t *testing.T) {
	d := newTester(t, conf)
	d.begin(1)
	d.waits(insert(3, "a"), locks(3, true, true))
	d.hears(gives(3, true, api.Page{Lsn: 20, Slots: []api.Slot{rec("x"), {}, rec("z")}}), space(5))
	d.late(room(5), api.Reply{Txn: txn(1), Slot: 1})
	d.changes(1, insert(3, ""), 5, 3)
	d.changes(1, update(3, 0, "yy"), 5, 0)
	d.changes(1, update(3, 0, "yy"), 5, 0)
	d.changes(1, remove(3, 2), 5, 2)
	d.now(update(3, 2, "b"), fails(1, api.ErrNone))
	d.now(remove(3, 2), fails(1, api.ErrNone))
	d.now(update(3, 31, "b"), fails(1, api.ErrNone))
	d.changes(1, insert(3, "b"), 5, 2)
	d.now(read(3, 2), api.Reply{Txn: txn(1), Data: "b"})
	d.now(read(3, 0), api.Reply{Txn: txn(1), Data: "yy"})
	none := api.Slot{}
	d.commit(1,
		change(1, 21, 0, 3, 1, none, rec("a")),
		change(1, 22, 21, 3, 3, none, rec("")),
		change(1, 23, 22, 3, 0, rec("x"), rec("yy")),
		change(1, 24, 23, 3, 0, rec("yy"), rec("yy")),
		change(1, 25, 24, 3, 2, rec("z"), none),
		change(1, 26, 25, 3, 2, none, rec("b")),
		commit(1, 27, 26))
	d.says()
	d.hears(calls(3, true), shows(3, image(26, "yy", "a", "b", "")), frees(3, false))
}

// An entry's Lsn is above the client's last one and the page's.
func TestLsn(t *testing.T) {
	d := newTester(t, conf)
	d.begin(1)
	d.has(1, 0, true, image(10))
	d.has(1, 1, true, image(500))
	d.has(1, 2, true, image(499))
	d.changes(1, insert(0, "a"), 5, 0)
	d.changes(1, insert(2, "a"), 5, 0)
	d.changes(1, insert(0, "b"), 5, 1)
	d.changes(1, insert(1, "a"), 5, 0)
	d.changes(1, insert(1, "b"), 5, 1)
	none := api.Slot{}
	d.commit(1,
		change(1, 11, 0, 0, 0, none, rec("a")),
		change(1, 500, 11, 2, 0, none, rec("a")),
		change(1, 501, 500, 0, 1, none, rec("b")),
		change(1, 502, 501, 1, 0, none, rec("a")),
		change(1, 503, 502, 1, 1, none, rec("b")),
		commit(1, 504, 503))
	d.begin(2)
	d.commit(2, commit(2, 505, 0))
}

func TestRoomOfAChange(t *testing.T) {
	d := newTester(t, conf)
	d.begin(1)
	d.has(1, 0, true, api.Page{})
	d.changes(1, insert(0, strings.Repeat("a", 200)), 5, 0)
	d.changes(1, update(0, 0, strings.Repeat("b", 200)), 6, 0) // some 420 bytes
	d.changes(1, update(0, 0, ""), 5, 0)
	d.waits(update(0, 0, "c"), space(5))
	d.late(room(0), fails(1, api.ErrLogFull))
	d.says()
	d.now(read(0, 0), ok(1))
	d.waits(update(0, 0, "c"), space(5))
	d.late(room(1), ok(1))
	d.now(rollsBack, ok(1))
	if l := d.Out(); len(l) != 1 || len(l[0].Entries) != 9 {
		t.Fatal(l)
	}
}

func TestErrPageFull(t *testing.T) {
	d := newTester(t, conf)
	d.begin(1)
	d.has(1, 0, true, image(0, strings.Repeat("a", 200), strings.Repeat("b", 25)))
	full := fails(1, api.ErrPageFull)
	d.now(insert(0, "cccc"), full)
	d.changes(1, insert(0, "ccc"), 5, 2)
	d.now(insert(0, ""), full)
	d.now(update(0, 2, "cccc"), full)
	d.now(update(0, 3, "cccc"), fails(1, api.ErrNone))
	d.changes(1, update(0, 2, "ddd"), 5, 2)
	d.changes(1, update(0, 0, strings.Repeat("a", 199)), 6, 0)
	d.changes(1, update(0, 2, "dddd"), 5, 2)
	many := api.Page{Slots: slices.Repeat([]api.Slot{rec("")}, 32)}
	d.waits(insert(1, ""), locks(1, true, true))
	d.late(gives(1, true, many), full)
	d.now(insert(1, ""), full)
	d.changes(1, remove(1, 7), 5, 7)
	d.changes(1, insert(1, "a"), 5, 7)
	d.now(insert(1, ""), full)
}

// ErrNone and ErrPageFull stand ahead of ErrLast, that ahead of MsgSpace.
func TestErrLast(t *testing.T) {
	full := image(0, strings.Repeat("a", 200), strings.Repeat("b", 29))
	d := newTester(t, api.Config{Pages: 8, Cache: 8, First: most - 1})
	d.begin(1)
	d.has(1, 0, true, image(most, "x"))
	d.now(insert(0, "a"), fails(1, api.ErrLast))
	d.now(update(0, 0, "a"), fails(1, api.ErrLast))
	d.now(remove(0, 0), fails(1, api.ErrLast))
	d.now(remove(0, 1), fails(1, api.ErrNone))
	d.now(update(0, 1, "a"), fails(1, api.ErrNone))
	d.has(1, 1, true, image(most-1, "x"))
	d.changes(1, insert(1, "a"), 5, 1)
	d.now(insert(1, "b"), fails(1, api.ErrLast))
	d.has(1, 2, true, full)
	d.now(insert(2, "a"), fails(1, api.ErrPageFull))
	d.now(update(2, 0, "a"), fails(1, api.ErrLast))
	d.now(update(2, 2, "a"), fails(1, api.ErrNone))
	d.has(1, 3, true, image(top, "x"))
	d.now(insert(3, "a"), fails(1, api.ErrLast))
	d.now(read(3, 0), api.Reply{Txn: txn(1), Data: "x"})
	d.now(rollsBack, ok(1))
	none := api.Slot{}
	d.says(logs(change(1, most, 0, 1, 1, none, rec("a")), undo(1, most+1, most, 1, 1, rec("a"), none, 0), end(1, most+2, most+1)))
	d.now(begins, api.Reply{Code: api.ErrLast})
	d.reset(8)
	d.now(begins, api.Reply{Code: api.ErrLast}) // a new epoch doesn't begin the numbers anew
}

func TestSavepoints(t *testing.T) {
	d := newTester(t, conf)
	d.begin(1)
	none := api.Slot{}
	d.now(back(1), fails(1, api.ErrSave))
	for n := 1; n <= 8; n++ {
		d.now(saves, api.Reply{Txn: txn(1), Slot: n})
	}
	d.now(saves, fails(1, api.ErrSave))
	d.now(back(9), fails(1, api.ErrSave))
	d.now(back(8), api.Reply{Txn: txn(1), Slot: 8})
	d.now(saves, fails(1, api.ErrSave))
	d.now(back(2), api.Reply{Txn: txn(1), Slot: 2})
	d.now(back(3), fails(1, api.ErrSave))
	d.inserts(1, 0, "a")
	d.now(saves, api.Reply{Txn: txn(1), Slot: 3})
	d.inserts(1, 1, "b")
	d.changes(1, update(0, 0, "c"), 5, 0)
	d.now(saves, api.Reply{Txn: txn(1), Slot: 4})
	d.changes(1, insert(1, "d"), 5, 1)
	d.now(back(4), api.Reply{Txn: txn(1), Slot: 4})
	d.now(read(1, 1), fails(1, api.ErrNone))
	d.now(back(4), api.Reply{Txn: txn(1), Slot: 4})
	d.changes(1, update(1, 0, "e"), 5, 0)
	d.now(back(3), api.Reply{Txn: txn(1), Slot: 3})
	d.now(back(4), fails(1, api.ErrSave))
	d.now(read(0, 0), api.Reply{Txn: txn(1), Data: "a"})
	d.now(read(1, 0), fails(1, api.ErrNone))
	d.says()
	d.now(saves, api.Reply{Txn: txn(1), Slot: 4})
	d.now(back(1), api.Reply{Txn: txn(1), Slot: 1})
	d.now(read(0, 0), fails(1, api.ErrNone))
	d.commit(1,
		change(1, 11, 0, 0, 0, none, rec("a")),
		change(1, 12, 11, 1, 0, none, rec("b")),
		change(1, 13, 12, 0, 0, rec("a"), rec("c")),
		change(1, 14, 13, 1, 1, none, rec("d")),
		undo(1, 15, 14, 1, 1, rec("d"), none, 13),
		change(1, 16, 15, 1, 0, rec("b"), rec("e")),
		undo(1, 17, 16, 1, 0, rec("e"), rec("b"), 15),
		undo(1, 18, 17, 0, 0, rec("c"), rec("a"), 12),
		undo(1, 19, 18, 1, 0, rec("b"), none, 11),
		undo(1, 20, 19, 0, 0, rec("a"), none, 0),
		commit(1, 21, 20))
	d.begin(2)
	d.now(back(1), fails(2, api.ErrSave))
	d.now(saves, api.Reply{Txn: txn(2), Slot: 1})
}

func TestCommitInMessages(t *testing.T) {
	for count := range 50 {
		d := newTester(t, conf)
		d.begin(1)
		d.has(1, 0, true, api.Page{})
		for n := range count {
			if n%2 == 0 {
				d.changes(1, insert(0, "a"), 5, 0)
			} else {
				d.changes(1, remove(0, 0), 5, 0)
			}
		}
		d.Call(commits)
		list := d.Out()
		var lsns []int
		for len(list) > 1 {
			if n := len(list[0].Entries); list[0].Kind != api.MsgLog || n != 16 && len(list) > 2 {
				t.Fatal(count, n, list[0])
			}
			for _, x := range list[0].Entries {
				lsns = append(lsns, x.Lsn)
			}
			list = list[1:]
		}
		if !sameMsgs(list, []api.Msg{wantsSure(txn(1))}) || len(lsns) != count+1 || lsns[0] != 11 || lsns[count] != 11+count || !slices.IsSorted(lsns) {
			t.Fatal(count, list, lsns)
		}
	}
}

func TestCommitWaitsForItsOwn(t *testing.T) {
	d := newTester(t, conf)
	d.begin(1)
	d.inserts(1, 1, "a")
	d.waits(commits, logs(change(1, 11, 0, 1, 0, api.Slot{}, rec("a")), commit(1, 12, 11)), wantsSure(txn(1)))
	for _, x := range []api.Txn{txn(2), {Client: 1, Epoch: epoch, N: 1}, {Client: client, Epoch: epoch - 1, N: 1}} {
		d.hears(sure(x))
	}
	for _, m := range []api.Msg{victim, room(0), room(7), grant(1, true)} {
		d.hears(m)
	}
	d.inTxn(txn(1), true)
	d.hears(calls(1, true), inUse(1))
	d.late(sure(txn(1)), ok(1))
	d.inTxn(api.Txn{}, false)
	d.says(shows(1, image(11, "a")), frees(1, false))
	d.hears(sure(txn(1)))
}

func TestRollback(t *testing.T) {
	d := newTester(t, conf)
	d.begin(1)
	d.has(1, 1, true, image(3, "x"))
	d.changes(1, update(1, 0, "y"), 5, 0)
	d.inserts(1, 2, "b")
	d.changes(1, remove(1, 0), 5, 0)
	d.changes(1, insert(1, "z"), 5, 0)
	none := api.Slot{}
	d.now(rollsBack, ok(1))
	d.says(logs(
		change(1, 11, 0, 1, 0, rec("x"), rec("y")),
		change(1, 12, 11, 2, 0, none, rec("b")),
		change(1, 13, 12, 1, 0, rec("y"), none),
		change(1, 14, 13, 1, 0, none, rec("z")),
		undo(1, 15, 14, 1, 0, rec("z"), none, 13),
		undo(1, 16, 15, 1, 0, none, rec("y"), 12),
		undo(1, 17, 16, 2, 0, rec("b"), none, 11),
		undo(1, 18, 17, 1, 0, rec("y"), rec("x"), 0),
		end(1, 19, 18)))
	d.inTxn(api.Txn{}, false)
	d.begin(2)
	d.now(read(1, 0), api.Reply{Txn: txn(2), Data: "x"})
	d.now(read(2, 0), fails(2, api.ErrNone))
	d.now(rollsBack, ok(2))
	d.says(api.Msg{Kind: api.MsgSpare, N: 2})
	d.hears(calls(1, true), shows(1, image(18, "x")), frees(1, false))
	d.hears(calls(2, false), shows(2, image(17)), frees(2, true))
}

// A rollback sends what wasn't sent, and an End for entries that were.
func TestRollbackOfWhatWasSent(t *testing.T) {
	d := newTester(t, conf)
	d.begin(1)
	d.inserts(1, 1, "a")
	d.commit(1, change(1, 11, 0, 1, 0, api.Slot{}, rec("a")), commit(1, 12, 11))
	d.begin(2)
	d.inserts(2, 2, "b")
	d.now(saves, api.Reply{Txn: txn(2), Slot: 1})
	d.hears(calls(1, true), logs(change(2, 13, 0, 2, 0, api.Slot{}, rec("b"))), shows(1, image(11, "a")), frees(1, false))
	d.now(rollsBack, ok(2))
	d.says(logs(undo(2, 14, 13, 2, 0, rec("b"), api.Slot{}, 0), end(2, 15, 14)))
	d.begin(3)
	d.inserts(3, 1, "c")
	d.now(saves, api.Reply{Txn: txn(3), Slot: 1})
	d.now(back(1), api.Reply{Txn: txn(3), Slot: 1})
	d.hears(calls(2, true), logs(change(3, 16, 0, 1, 0, api.Slot{}, rec("c"))), shows(2, image(14)), frees(2, false))
	d.waits(commits, logs(commit(3, 17, 16)), wantsSure(txn(3)))
}
