package patch_test

import (
	"math"
	"math/rand"
	"slices"
	"strings"
	"testing"

	"seneschal/api"
	"seneschal/entry"
	"seneschal/patch"
	"seneschal/slab"
)

var one = api.Txn{Client: 1, Epoch: 1, N: 1}

func rec(s string) api.Slot {
	return api.Slot{Used: true, Data: s}
}

func many(n int) string {
	return strings.Repeat("x", n)
}

func page(lsn int, slots ...api.Slot) api.Page {
	return api.Page{Lsn: lsn, Slots: slots}
}

// far is a page with a record at a slot, and none ahead of it.
func far(lsn, slot int, x api.Slot) api.Page {
	return page(lsn, append(make([]api.Slot, slot), x)...)
}

// change and undo are entries of the page 7.
func change(lsn, slot int, was, is api.Slot) api.Entry {
	return api.Entry{Kind: api.Change, Txn: one, Lsn: lsn, Prev: lsn - 1, Page: 7, Slot: slot, Was: was, Is: is}
}

func undo(lsn, slot int, was, is api.Slot) api.Entry {
	x := change(lsn, slot, was, is)
	x.Kind = api.Undo
	return x
}

func same(p, q api.Page) bool {
	return p.Lsn == q.Lsn && slices.Equal(p.Slots, q.Slots)
}

func sizeOf(p api.Page) int {
	size := 9
	for _, x := range p.Slots {
		size += 1 + len(x.Data)
	}
	return size
}

func slotOf(x api.Slot) bool {
	return len(x.Data) <= 200 && (x.Used || x.Data == "")
}

// pageOf and entryOf read plainly which pages are good, and which entries change one.
func pageOf(p api.Page) bool {
	if p.Lsn < 0 || p.Lsn > 1<<40 || len(p.Slots) > 32 || sizeOf(p) > 240 {
		return false
	}
	for i, x := range p.Slots {
		if !slotOf(x) || i == len(p.Slots)-1 && !x.Used {
			return false
		}
	}
	return true
}

func entryOf(x api.Entry) bool {
	t := x.Txn
	if t.Client < 1 || t.Client > 8 || t.Epoch < 1 || t.Epoch > 1<<30 || t.N < 1 || t.N > 1<<30 {
		return false
	}
	if x.Lsn < 1 || x.Lsn > 1<<40 || x.Prev < 0 || x.Prev >= x.Lsn {
		return false
	}
	if x.Page < 0 || x.Page > 1023 || x.Slot < 0 || x.Slot > 31 || !slotOf(x.Was) || !slotOf(x.Is) {
		return false
	}
	return x.Kind == 1 && x.Next == 0 || x.Kind == 2 && x.Next >= 0 && x.Next <= x.Prev
}

// redoOf does an entry plainly: on 32 slots, of which those behind the last one that is Used are cut off.
func redoOf(p api.Page, x api.Entry) (api.Page, bool, api.Errno) {
	if !pageOf(p) || !entryOf(x) {
		return api.Page{}, false, api.ErrArg
	}
	if x.Lsn <= p.Lsn {
		return p, false, 0
	}
	slots := make([]api.Slot, 32)
	copy(slots, p.Slots)
	if slots[x.Slot] != x.Was {
		return api.Page{}, false, api.ErrSlot
	}
	slots[x.Slot] = x.Is
	for len(slots) > 0 && !slots[len(slots)-1].Used {
		slots = slots[:len(slots)-1]
	}
	q := page(x.Lsn, slots...)
	if sizeOf(q) > 240 {
		return api.Page{}, false, api.ErrPageFull
	}
	return q, true, 0
}

// turnOf undoes an entry plainly.
func turnOf(x api.Entry, lsn, prev int) (api.Entry, api.Errno) {
	y := api.Entry{Kind: 2, Txn: x.Txn, Lsn: lsn, Prev: prev, Page: x.Page, Slot: x.Slot, Was: x.Is, Is: x.Was, Next: x.Prev}
	if x.Kind != 1 || !entryOf(x) || !entryOf(y) {
		return api.Entry{}, api.ErrArg
	}
	return y, 0
}

// allOf does a list plainly.
func allOf(p api.Page, n int, list []api.Entry) (api.Page, api.Errno) {
	if !pageOf(p) {
		return api.Page{}, api.ErrArg
	}
	for _, x := range list {
		if (x.Kind == 1 || x.Kind == 2) && x.Page == n {
			var e api.Errno
			if p, _, e = redoOf(p, x); e != 0 {
				return api.Page{}, e
			}
		}
	}
	return p, 0
}

func redo(t *testing.T, p api.Page, x api.Entry, want api.Page, done bool, e api.Errno) {
	t.Helper()
	if q, done2, e2 := patch.Redo(p, x); !same(q, want) || done2 != done || e2 != e {
		t.Errorf("Redo(%v, %v): %v, %v, %d, wanted %v, %v, %d", p, x, q, done2, e2, want, done, e)
	}
}

func refuse(t *testing.T, p api.Page, x api.Entry, e api.Errno) {
	t.Helper()
	redo(t, p, x, api.Page{}, false, e)
}

func turn(t *testing.T, x api.Entry, lsn, prev int, want api.Entry, e api.Errno) {
	t.Helper()
	if y, e2 := patch.Turn(x, lsn, prev); y != want || e2 != e {
		t.Errorf("Turn(%v, %d, %d): %v, %d, wanted %v, %d", x, lsn, prev, y, e2, want, e)
	}
}

func all(t *testing.T, p api.Page, n int, list []api.Entry, want api.Page, e api.Errno) {
	t.Helper()
	if q, e2 := patch.All(p, n, list); !same(q, want) || e2 != e {
		t.Errorf("All(%v, %d, %v): %v, %d, wanted %v, %d", p, n, list, q, e2, want, e)
	}
}

// badPages are pages each of which lacks one thing to be good.
func badPages() []api.Page {
	return []api.Page{
		page(-1), page(math.MinInt), page(1<<40 + 1), page(math.MaxInt, rec("a")),
		page(0, slices.Repeat([]api.Slot{rec("")}, 33)...),
		page(0, rec("a"), api.Slot{}),
		page(0, api.Slot{}),
		page(0, api.Slot{Data: "a"}, rec("")),
		page(0, rec(many(201))),
		page(0, rec(many(200)), rec(many(30))),
	}
}

// badEntries are of the kinds Change or Undo, and each lacks one thing to be an entry; put at the slot 1 of a page with one record, each would be done if that weren't asked.
func badEntries() []api.Entry {
	var list []api.Entry
	for _, spoil := range []func(x *api.Entry){
		func(x *api.Entry) { x.Txn.Client = 0 },
		func(x *api.Entry) { x.Txn.Client = 9 },
		func(x *api.Entry) { x.Txn.Epoch = 0 },
		func(x *api.Entry) { x.Txn.Epoch = 1<<30 + 1 },
		func(x *api.Entry) { x.Txn.N = 0 },
		func(x *api.Entry) { x.Txn.N = 1<<30 + 1 },
		func(x *api.Entry) { x.Lsn = 1<<40 + 1 },
		func(x *api.Entry) { x.Prev = x.Lsn },
		func(x *api.Entry) { x.Prev = -1 },
		func(x *api.Entry) { x.Page = -1 },
		func(x *api.Entry) { x.Page = 1024 },
		func(x *api.Entry) { x.Slot = -1 },
		func(x *api.Entry) { x.Slot = 32 },
		func(x *api.Entry) { x.Was.Data = "x" },
		func(x *api.Entry) { x.Is = rec(many(201)) },
		func(x *api.Entry) { x.Is = api.Slot{Data: "x"} },
		func(x *api.Entry) { x.Next = -1 },
		func(x *api.Entry) { x.Next = x.Lsn },
	} {
		x := change(9, 1, api.Slot{}, rec("b"))
		y := undo(9, 1, api.Slot{}, rec("b"))
		spoil(&x)
		spoil(&y)
		list = append(list, x, y)
	}
	x := change(9, 1, api.Slot{}, rec("b"))
	x.Next = 1
	return append(list, x)
}

// others are of other kinds, some of which are entries.
func others() []api.Entry {
	list := []api.Entry{{}, {Kind: api.Commit, Txn: one, Lsn: 9, Prev: 8}, {Kind: api.End, Txn: one, Lsn: 9}}
	for _, kind := range []int{math.MinInt, -1, 0, api.Commit, api.End, 5, math.MaxInt} {
		x := change(9, 1, api.Slot{}, rec("b"))
		x.Kind = kind
		list = append(list, x)
	}
	return list
}

// P5.1

func TestRedo(t *testing.T) {
	p := page(4, rec("a"), api.Slot{}, rec("c"))
	for _, c := range []struct {
		slot    int
		was, is api.Slot
		want    []api.Slot
	}{
		{1, api.Slot{}, rec("b"), []api.Slot{rec("a"), rec("b"), rec("c")}},
		{3, api.Slot{}, rec("d"), []api.Slot{rec("a"), {}, rec("c"), rec("d")}},
		{5, api.Slot{}, rec(""), []api.Slot{rec("a"), {}, rec("c"), {}, {}, rec("")}},
		{0, rec("a"), rec("A"), []api.Slot{rec("A"), {}, rec("c")}},
		{0, rec("a"), rec(""), []api.Slot{rec(""), {}, rec("c")}},
		{0, rec("a"), api.Slot{}, []api.Slot{{}, {}, rec("c")}},
		{2, rec("c"), api.Slot{}, []api.Slot{rec("a")}},
		{2, rec("c"), rec(many(200)), []api.Slot{rec("a"), {}, rec(many(200))}},
		{0, rec("a"), rec("a"), []api.Slot{rec("a"), {}, rec("c")}},
		{1, api.Slot{}, api.Slot{}, []api.Slot{rec("a"), {}, rec("c")}},
		{31, api.Slot{}, api.Slot{}, []api.Slot{rec("a"), {}, rec("c")}},
	} {
		redo(t, p, change(5, c.slot, c.was, c.is), page(5, c.want...), true, 0)
		redo(t, p, undo(500, c.slot, c.was, c.is), page(500, c.want...), true, 0)
	}
	redo(t, api.Page{}, change(1, 31, api.Slot{}, rec("z")), far(1, 31, rec("z")), true, 0)
	redo(t, far(1, 31, rec("z")), change(2, 31, rec("z"), api.Slot{}), page(2), true, 0)
}

func TestRedoExample(t *testing.T) {
	x := change(5, 0, api.Slot{}, rec("a"))
	redo(t, api.Page{}, x, page(5, rec("a")), true, 0)
	redo(t, page(5, rec("a")), x, page(5, rec("a")), false, 0)
	y, e := patch.Turn(x, 6, 5)
	if e != 0 {
		t.Fatal(e)
	}
	redo(t, page(5, rec("a")), y, page(6), true, 0)
}

func TestRedoByTheLsn(t *testing.T) {
	for _, lsn := range []int{0, 1, 2, 77, 1<<40 - 1, 1 << 40} {
		p := page(lsn, rec("a"))
		for _, n := range []int{1, lsn - 1, lsn, lsn + 1, lsn + 9, 1<<40 - 1, 1 << 40} {
			if n < 1 || n > 1<<40 {
				continue
			}
			for _, x := range []api.Entry{change(n, 0, rec("a"), rec("b")), undo(n, 0, rec("a"), rec("b"))} {
				if n > lsn {
					redo(t, p, x, page(n, rec("b")), true, 0)
				} else {
					redo(t, p, x, p, false, 0)
				}
			}
		}
	}
}

func TestWhatIsDoneIsNotHeldAgainstThePage(t *testing.T) {
	full := page(9, rec(many(200)), rec(many(29)))
	for _, lsn := range []int{1, 8, 9} {
		redo(t, full, change(lsn, 0, rec("other"), rec("b")), full, false, 0)
		redo(t, full, change(lsn, 5, api.Slot{}, rec(many(200))), full, false, 0)
		redo(t, full, undo(lsn, 5, rec("a"), rec(many(200))), full, false, 0)
		redo(t, page(9), change(lsn, 31, rec("a"), api.Slot{}), page(9), false, 0)
	}
}

func TestRedoOfAnotherSlot(t *testing.T) {
	p := page(4, rec("a"), api.Slot{}, rec(""))
	for slot, has := range []api.Slot{rec("a"), {}, rec(""), {}} {
		for _, was := range []api.Slot{{}, rec(""), rec("a"), rec("A"), rec("ab"), rec("a\x00")} {
			for _, is := range []api.Slot{{}, rec("b"), rec("a"), rec(many(200))} {
				if was != has {
					refuse(t, p, change(5, slot, was, is), api.ErrSlot)
					refuse(t, p, undo(5, slot, was, is), api.ErrSlot)
				}
			}
		}
	}
	refuse(t, p, change(5, 31, rec("a"), api.Slot{}), api.ErrSlot)
	refuse(t, api.Page{}, change(1, 0, rec(""), rec("")), api.ErrSlot)
}

func TestRedoAtTheEdgeOfThePage(t *testing.T) {
	p := page(4, rec(many(200)))
	redo(t, p, change(5, 1, api.Slot{}, rec(many(29))), page(5, rec(many(200)), rec(many(29))), true, 0)
	refuse(t, p, change(5, 1, api.Slot{}, rec(many(30))), api.ErrPageFull)
	refuse(t, p, undo(5, 1, api.Slot{}, rec(many(30))), api.ErrPageFull)
	refuse(t, p, change(5, 1, rec("a"), rec(many(30))), api.ErrSlot)
	redo(t, p, change(5, 30, api.Slot{}, rec("")), page(5, append(append([]api.Slot{rec(many(200))}, make([]api.Slot, 29)...), rec(""))...), true, 0)
	refuse(t, p, change(5, 31, api.Slot{}, rec("")), api.ErrPageFull)
	redo(t, api.Page{}, change(5, 31, api.Slot{}, rec(many(199))), far(5, 31, rec(many(199))), true, 0)
	refuse(t, api.Page{}, change(5, 31, api.Slot{}, rec(many(200))), api.ErrPageFull)

	full := page(4, rec(many(200)), rec(many(29)))
	redo(t, full, change(5, 1, rec(many(29)), rec("")), page(5, rec(many(200)), rec("")), true, 0)
	redo(t, full, change(5, 0, rec(many(200)), api.Slot{}), page(5, api.Slot{}, rec(many(29))), true, 0)
	redo(t, full, change(5, 31, api.Slot{}, api.Slot{}), page(5, full.Slots...), true, 0)
	refuse(t, full, change(5, 1, rec(many(29)), rec(many(30))), api.ErrPageFull)
	refuse(t, full, change(5, 2, api.Slot{}, rec("")), api.ErrPageFull)
}

func TestRedoOfWrongPages(t *testing.T) {
	list := []api.Entry{change(1, 0, api.Slot{}, rec("b")), change(9, 0, rec("a"), rec("b")), change(1<<40, 3, api.Slot{}, rec(many(200))), undo(9, 1, api.Slot{}, api.Slot{})}
	for _, p := range badPages() {
		for _, x := range slices.Concat(list, others(), badEntries()) {
			refuse(t, p, x, api.ErrArg)
		}
	}
}

// That is told ahead of all else, even where the page is behind them or can't have them.
func TestRedoOfWrongEntries(t *testing.T) {
	for _, p := range []api.Page{{}, page(8, rec("a")), page(9, rec("a")), page(1<<40, rec("a")), page(4, rec("a"), rec("c")), page(4, rec(many(200)), api.Slot{}, rec(many(28)))} {
		for _, x := range slices.Concat(others(), badEntries()) {
			refuse(t, p, x, api.ErrArg)
		}
		for _, lsn := range []int{math.MinInt, -1, 0, 1<<40 + 1, math.MaxInt} {
			x := change(9, 1, api.Slot{}, rec("b"))
			x.Lsn, x.Prev = lsn, 0
			refuse(t, p, x, api.ErrArg)
		}
	}
}

func TestThePageOfAnEntryPlaysNoPart(t *testing.T) {
	p := page(4, rec("a"))
	for _, n := range []int{0, 1, 7, 512, 1022, 1023} {
		for _, c := range []struct {
			x    api.Entry
			want api.Page
			done bool
			e    api.Errno
		}{
			{change(5, 1, api.Slot{}, rec("b")), page(5, rec("a"), rec("b")), true, 0},
			{change(4, 1, api.Slot{}, rec("b")), p, false, 0},
			{change(5, 0, api.Slot{}, rec("b")), api.Page{}, false, api.ErrSlot},
		} {
			c.x.Page = n
			redo(t, p, c.x, c.want, c.done, c.e)
		}
	}
}

// P5.2

func TestTurn(t *testing.T) {
	name := api.Txn{Client: 8, Epoch: 1 << 30, N: 3}
	x := api.Entry{Kind: api.Change, Txn: name, Lsn: 5, Prev: 2, Page: 1023, Slot: 31, Was: rec("old"), Is: rec("new")}
	want := api.Entry{Kind: api.Undo, Txn: name, Lsn: 9, Prev: 7, Page: 1023, Slot: 31, Was: rec("new"), Is: rec("old"), Next: 2}
	turn(t, x, 9, 7, want, 0)
	x.Was, want.Is = api.Slot{}, api.Slot{}
	turn(t, x, 9, 7, want, 0)
	x.Is, want.Was = rec(""), rec("")
	turn(t, x, 9, 7, want, 0)
	x.Is, want.Was = api.Slot{}, api.Slot{}
	turn(t, x, 9, 7, want, 0)
	x.Is, want.Was = rec(many(200)), rec(many(200))
	turn(t, x, 9, 7, want, 0)
	x.Prev, want.Next = 0, 0
	turn(t, x, 9, 7, want, 0)
	turn(t, change(1, 0, api.Slot{}, rec("a")), 2, 1, api.Entry{Kind: api.Undo, Txn: one, Lsn: 2, Prev: 1, Page: 7, Was: rec("a")}, 0)
}

func TestTurnAtItsEdges(t *testing.T) {
	x := change(5, 1, rec("old"), rec("new"))
	x.Prev = 3
	want := undo(0, 1, rec("new"), rec("old"))
	want.Next = 3
	for _, c := range []struct {
		lsn, prev int
		good      bool
	}{
		{6, 5, true}, {7, 5, true}, {1 << 40, 5, true}, {1 << 40, 1<<40 - 1, true},
		{1<<40 + 1, 5, false}, {1<<40 + 1, 1 << 40, false}, {math.MaxInt, 5, false},
		{6, 6, false}, {6, 7, false}, {1 << 40, 1 << 40, false}, {6, math.MaxInt, false},
		{6, 4, true}, {6, 3, true}, {6, 2, false}, {6, 0, false}, {6, -1, false}, {6, math.MinInt, false}, // Next is up to Prev
		{5, 4, true}, {4, 3, true}, {3, 3, false}, // the chapter holds Lsn against Prev alone
		{0, 0, false}, {-1, -2, false}, {math.MinInt, math.MinInt, false}, {math.MinInt, math.MaxInt, false},
	} {
		if c.good {
			want.Lsn, want.Prev = c.lsn, c.prev
			turn(t, x, c.lsn, c.prev, want, 0)
		} else {
			turn(t, x, c.lsn, c.prev, api.Entry{}, api.ErrArg)
		}
	}
	x.Prev = 0
	turn(t, x, 1, 0, api.Entry{Kind: api.Undo, Txn: one, Lsn: 1, Page: 7, Slot: 1, Was: rec("new"), Is: rec("old")}, 0)
	turn(t, x, 0, 0, api.Entry{}, api.ErrArg)
	turn(t, x, 1, 1, api.Entry{}, api.ErrArg)
}

func TestTurnOfWrongEntries(t *testing.T) {
	y, _ := patch.Turn(change(5, 1, rec("old"), rec("new")), 6, 5)
	for _, x := range slices.Concat(others(), badEntries(), []api.Entry{y, undo(5, 1, api.Slot{}, rec("a"))}) {
		for _, lsn := range []int{1, 9, 10, 20, 1 << 40} {
			turn(t, x, lsn, lsn-1, api.Entry{}, api.ErrArg)
		}
	}
}

// P5.3

func TestAll(t *testing.T) {
	a, b := change(5, 0, api.Slot{}, rec("a")), change(6, 1, api.Slot{}, rec("b"))
	c, d := undo(8, 1, rec("b"), api.Slot{}), change(9, 0, rec("a"), rec("A"))
	list := []api.Entry{a, b, c, d}
	for k, want := range []api.Page{{}, page(5, rec("a")), page(6, rec("a"), rec("b")), page(8, rec("a")), page(9, rec("A"))} {
		all(t, api.Page{}, 7, list[:k], want, 0)
		all(t, want, 7, list[k:], page(9, rec("A")), 0)
	}
	all(t, page(3, api.Slot{}, api.Slot{}, rec("z")), 7, list, page(9, rec("A"), api.Slot{}, rec("z")), 0)
	all(t, page(9, rec("z")), 7, list, page(9, rec("z")), 0)
	all(t, page(1<<40, rec("z")), 7, list, page(1<<40, rec("z")), 0)
	all(t, page(4, rec("z")), 7, nil, page(4, rec("z")), 0)
	all(t, page(4, rec("z")), 7, []api.Entry{}, page(4, rec("z")), 0)
	all(t, api.Page{}, 7, nil, api.Page{}, 0)
	all(t, api.Page{}, 7, []api.Entry{d, c, b, a}, api.Page{}, api.ErrSlot)
	all(t, page(4, rec("a")), 7, []api.Entry{d, c, b, a}, page(9, rec("A")), 0)
}

func TestAllLeavesOthersOut(t *testing.T) {
	a, b := change(5, 0, api.Slot{}, rec("a")), change(9, 0, rec("a"), rec("A"))
	for _, x := range others() {
		all(t, api.Page{}, 7, []api.Entry{x, a, x, b, x}, page(9, rec("A")), 0)
		x.Page = 7
		all(t, api.Page{}, 7, []api.Entry{x, a, x, b, x}, page(9, rec("A")), 0)
	}
	for _, n := range []int{math.MinInt, -1, 0, 6, 8, 1023, 1024, math.MaxInt} {
		for _, x := range slices.Concat(badEntries(), []api.Entry{change(7, 0, rec("a"), rec("x")), undo(7, 9, rec("none"), rec("x"))}) {
			x.Page = n
			all(t, api.Page{}, 7, []api.Entry{x, a, x, b, x}, page(9, rec("A")), 0)
		}
		all(t, page(3, rec("z")), n, []api.Entry{a, b}, page(3, rec("z")), 0)
	}
	a.Page, b.Page = 0, 1023
	all(t, api.Page{}, 0, []api.Entry{a, b}, page(5, rec("a")), 0)
	all(t, page(6, rec("a")), 1023, []api.Entry{a, b}, page(9, rec("A")), 0)
}

func TestAllAnswersTheFirstError(t *testing.T) {
	good := []api.Entry{change(2, 0, api.Slot{}, rec("a")), undo(3, 1, api.Slot{}, rec("b")), change(4, 1, rec("b"), api.Slot{})}
	wrong := change(9, 1, api.Slot{}, rec("b"))
	wrong.Prev = 9
	later := change(9, 5, rec("none"), rec("b"))
	long := change(9, 31, api.Slot{}, rec(many(200)))
	for _, c := range []struct {
		list []api.Entry
		e    api.Errno
	}{
		{[]api.Entry{wrong}, api.ErrArg},
		{[]api.Entry{later}, api.ErrSlot},
		{[]api.Entry{long}, api.ErrPageFull},
		{[]api.Entry{wrong, later, long}, api.ErrArg},
		{[]api.Entry{later, long, wrong}, api.ErrSlot},
		{[]api.Entry{long, wrong, later}, api.ErrPageFull},
	} {
		all(t, api.Page{}, 7, c.list, api.Page{}, c.e)
		for k := range len(good) + 1 {
			all(t, api.Page{}, 7, slices.Insert(slices.Clone(good), k, c.list...), api.Page{}, c.e)
		}
	}
	for _, x := range badEntries() {
		all(t, page(1<<40, rec("a")), x.Page, []api.Entry{x}, api.Page{}, api.ErrArg)
	}
}

func TestAllOfWrongPages(t *testing.T) {
	a := change(5, 0, api.Slot{}, rec("a"))
	for _, p := range badPages() {
		for _, n := range []int{-1, 0, 7, 8, 1024} {
			for _, list := range [][]api.Entry{nil, {}, {a}, {{}}, {change(9, 0, rec("none"), rec("a"))}, badEntries()} {
				all(t, p, n, list, api.Page{}, api.ErrArg)
			}
		}
	}
}

// P5.4

// chance is an entry for a page that is good, which mostly can be done.
func chance(r *rand.Rand, p api.Page) api.Entry {
	slot := r.Intn(1 + r.Intn(32))
	was := slab.At(p, slot)
	if r.Intn(12) == 0 {
		was = rec("none")
	}
	is := api.Slot{Used: r.Intn(3) > 0}
	if is.Used {
		is.Data = strings.Repeat(string(rune('a'+r.Intn(26))), r.Intn(1+r.Intn(1+r.Intn(200))))
	}
	lsn := p.Lsn + 1 + r.Intn(3) - r.Intn(2)
	x := api.Entry{Kind: 1 + r.Intn(2), Txn: api.Txn{Client: 1 + r.Intn(8), Epoch: 1 + r.Intn(9), N: 1 + r.Intn(9)}, Lsn: max(1, lsn), Page: r.Intn(3), Slot: slot, Was: was, Is: is}
	x.Prev = r.Intn(x.Lsn)
	if x.Kind == api.Undo {
		x.Next = r.Intn(x.Prev + 1)
	}
	return x
}

func TestEntriesByChance(t *testing.T) {
	r := rand.New(rand.NewSource(1))
	found := map[api.Errno]int{}
	for range 400 {
		p := api.Page{}
		for range 60 {
			x := chance(r, p)
			q, done, e := patch.Redo(p, x)
			want, done2, e2 := redoOf(p, x)
			if !same(q, want) || done != done2 || e != e2 {
				t.Fatalf("Redo(%v, %v): %v, %v, %d, wanted %v, %v, %d", p, x, q, done, e, want, done2, e2)
			}
			found[e]++
			if e != 0 {
				continue
			}
			if again, done, e := patch.Redo(q, x); !same(again, q) || done || e != 0 {
				t.Fatalf("%v, done again to %v: %v, %v, %d", x, q, again, done, e)
			}
			p = q
		}
	}
	if found[0] < 10000 || found[api.ErrSlot] < 1000 || found[api.ErrPageFull] < 100 {
		t.Errorf("done and refused: %v", found)
	}
}

func TestAnEntryAndItsUndoingLeaveTheSlots(t *testing.T) {
	r := rand.New(rand.NewSource(2))
	turned := 0
	for range 300 {
		p := api.Page{}
		for range 60 {
			x := chance(r, p)
			q, done, e := patch.Redo(p, x)
			if e != 0 || !done {
				continue
			}
			if x.Kind == api.Change {
				y, e := patch.Turn(x, x.Lsn+1+r.Intn(5), x.Lsn)
				back, done, f := patch.Redo(q, y)
				if e != 0 || f != 0 || !done || back.Lsn != y.Lsn || !slices.Equal(back.Slots, p.Slots) {
					t.Fatalf("%v of %v undone by %v, %d: %v, %v, %d", x, p, y, e, back, done, f)
				}
				turned++
			}
			p = q
		}
	}
	if turned < 3000 {
		t.Errorf("only %d were undone", turned)
	}
	full := page(4, rec(many(200)), rec(many(29)))
	for _, x := range []api.Entry{change(5, 0, rec(many(200)), api.Slot{}), change(5, 1, rec(many(29)), rec("")), change(5, 1, rec(many(29)), api.Slot{}), change(5, 31, api.Slot{}, api.Slot{})} {
		y, _ := patch.Turn(x, 6, 5)
		all(t, full, 7, []api.Entry{x, y}, page(6, full.Slots...), 0)
	}
}

func TestAListByChance(t *testing.T) {
	r := rand.New(rand.NewSource(3))
	for range 300 {
		pages := make([]api.Page, 3)
		lsn := 0
		var list []api.Entry
		for range r.Intn(40) {
			n := r.Intn(3)
			x := chance(r, api.Page{Lsn: lsn, Slots: pages[n].Slots})
			x.Page = n
			if q, _, e := redoOf(pages[n], x); e == 0 {
				pages[n], lsn = q, max(lsn, x.Lsn)
				list = append(list, x)
			}
			if r.Intn(8) == 0 {
				list = append(list, api.Entry{Kind: 3 + r.Intn(2), Txn: one, Lsn: lsn + 1, Page: r.Intn(2)})
			}
		}
		for n, want := range pages {
			all(t, api.Page{}, n, list, want, 0)
			for k := range len(list) + 1 {
				half, _ := allOf(api.Page{}, n, list[:k])
				all(t, half, n, list[k:], want, 0)
				all(t, half, n, list, want, 0)
				all(t, want, n, list[k:], want, 0)
			}
		}
	}
}

func TestAnswersAreNewMemory(t *testing.T) {
	whole := []api.Slot{rec("a"), {}, rec("c"), {Data: "spare"}, {Data: "spare"}}
	before := slices.Clone(whole)
	p := api.Page{Lsn: 4, Slots: whole[:3:5]}
	list := []api.Entry{change(3, 0, rec("other"), rec("a")), change(5, 3, api.Slot{}, rec("d")), change(6, 2, rec("c"), api.Slot{}), undo(7, 1, api.Slot{}, rec("b"))}
	told := slices.Clone(list)
	var answers []api.Page
	keep := func(q api.Page, e api.Errno) {
		if e != 0 {
			t.Fatal(e)
		}
		answers = append(answers, q)
	}
	for range 2 {
		for _, x := range []api.Entry{list[0], list[1], list[3], change(4, 3, api.Slot{}, rec("d")), change(9, 2, rec("c"), api.Slot{}), change(9, 1, api.Slot{}, api.Slot{})} {
			q, _, e := patch.Redo(p, x)
			keep(q, e)
		}
		for k := range len(list) + 1 {
			keep(patch.All(p, 7, list[:k]))
		}
		keep(patch.All(p, 8, list))
	}
	patch.Redo(p, change(9, 3, api.Slot{}, rec(many(200))))
	patch.All(p, 7, append(list, change(9, 4, api.Slot{}, rec(many(200))), change(9, 0, rec("none"), rec("e"))))
	if !slices.Equal(whole, before) || !slices.Equal(list, told) {
		t.Errorf("what was handed in is %v, %v", whole, list)
	}
	for i, q := range answers {
		kept := make([]api.Page, len(answers))
		for j, other := range answers {
			kept[j] = page(other.Lsn, slices.Clone(other.Slots)...)
		}
		q.Slots = q.Slots[:cap(q.Slots)]
		for k := range q.Slots {
			q.Slots[k] = rec("scribble")
		}
		if !slices.Equal(whole, before) {
			t.Fatalf("answer %d shares memory with the argument", i)
		}
		for j, other := range answers {
			if j != i && !same(other, kept[j]) {
				t.Fatalf("answers %d and %d share memory", i, j)
			}
		}
	}
}

// P1 of DOC.md

func ints() []int {
	list := []int{math.MinInt, math.MinInt + 1, math.MaxInt - 1, math.MaxInt}
	for _, n := range []int{0, 8, 31, 1023, 1 << 30, 1 << 40} {
		list = append(list, n-1, n, n+1)
	}
	return list
}

// raw is an entry in which anything may stand, but that is good often enough.
func raw(r *rand.Rand, p api.Page) api.Entry {
	x := chance(r, p)
	x.Page = 1
	if r.Intn(3) == 0 {
		return x
	}
	numbers := []*int{&x.Kind, &x.Txn.Client, &x.Txn.Epoch, &x.Txn.N, &x.Lsn, &x.Prev, &x.Page, &x.Slot, &x.Next}
	if i := r.Intn(11); i < 9 {
		*numbers[i] = ints()[r.Intn(len(ints()))]
	} else {
		*[]*api.Slot{&x.Was, &x.Is}[i-9] = []api.Slot{{}, rec(many(r.Intn(260))), {Data: "x"}}[r.Intn(3)]
	}
	return x
}

func TestCallsEndWhateverTheyAreGiven(t *testing.T) {
	r := rand.New(rand.NewSource(4))
	good := []api.Page{{}, page(4, rec("a")), page(1<<40, rec("a")), page(2, rec(many(200)), rec(many(29))), far(3, 31, rec(""))}
	pages := slices.Concat(badPages(), good)
	turned := 0
	for range 30000 {
		p := pages[r.Intn(len(pages))]
		x := raw(r, p)
		q, done, e := patch.Redo(p, x)
		if want, done2, e2 := redoOf(p, x); !same(q, want) || done != done2 || e != e2 {
			t.Fatalf("Redo(%v, %v): %v, %v, %d, wanted %v, %v, %d", p, x, q, done, e, want, done2, e2)
		}
		lsn, prev := x.Lsn+r.Intn(4), x.Lsn-r.Intn(2)
		if r.Intn(4) == 0 {
			lsn, prev = ints()[r.Intn(len(ints()))], ints()[r.Intn(len(ints()))]
		}
		y, e := patch.Turn(x, lsn, prev)
		if want, e2 := turnOf(x, lsn, prev); y != want || e != e2 {
			t.Fatalf("Turn(%v, %d, %d): %v, %d, wanted %v, %d", x, lsn, prev, y, e, want, e2)
		}
		if e == 0 {
			turned++
			if !entry.Good(y) {
				t.Fatalf("Turn(%v, %d, %d): %v, which is no entry", x, lsn, prev, y)
			}
		}
		list := []api.Entry{raw(r, p), x, y, raw(r, p)}
		n := []int{x.Page, 1, 1, 1}[r.Intn(4)]
		all2, e := patch.All(p, n, list)
		if want, e2 := allOf(p, n, list); !same(all2, want) || e != e2 {
			t.Fatalf("All(%v, %d, %v): %v, %d, wanted %v, %d", p, n, list, all2, e, want, e2)
		}
	}
	if turned < 2000 {
		t.Errorf("only %d were turned", turned)
	}
}
