package mend_test

import (
	"math"
	"reflect"
	"slices"
	"strings"
	"testing"

	"seneschal/api"
	"seneschal/entry"
	"seneschal/mend"
	"seneschal/slab"
)

const top = 1 << 40 // the greatest Lsn

var none = api.Slot{}

func rec(s string) api.Slot { return api.Slot{Used: true, Data: s} }

func txn(client, epoch, n int) api.Txn { return api.Txn{Client: client, Epoch: epoch, N: n} }

var a, b, c = txn(1, 1, 1), txn(2, 1, 1), txn(3, 1, 1)

func change(t api.Txn, lsn, prev, page, slot int, was, is api.Slot) api.Entry {
	return api.Entry{Kind: api.Change, Txn: t, Lsn: lsn, Prev: prev, Page: page, Slot: slot, Was: was, Is: is}
}

func undo(t api.Txn, lsn, prev, page, slot int, was, is api.Slot, next int) api.Entry {
	return api.Entry{Kind: api.Undo, Txn: t, Lsn: lsn, Prev: prev, Page: page, Slot: slot, Was: was, Is: is, Next: next}
}

// bare and bareUndo change the page 0 from nothing to nothing, so that nothing but the entries' numbers plays a part.
func bare(t api.Txn, lsn, prev int) api.Entry { return change(t, lsn, prev, 0, 0, none, none) }

func bareUndo(t api.Txn, lsn, prev, next int) api.Entry {
	return undo(t, lsn, prev, 0, 0, none, none, next)
}

func commit(t api.Txn, lsn, prev int) api.Entry {
	return api.Entry{Kind: api.Commit, Txn: t, Lsn: lsn, Prev: prev}
}

func end(t api.Txn, lsn, prev int) api.Entry {
	return api.Entry{Kind: api.End, Txn: t, Lsn: lsn, Prev: prev}
}

func leaf(n, lsn int, slots ...api.Slot) api.Leaf {
	return api.Leaf{N: n, Page: api.Page{Lsn: lsn, Slots: slots}}
}

func samePages(x, y []api.Leaf) bool {
	return slices.EqualFunc(x, y, func(l, m api.Leaf) bool {
		return l.N == m.N && l.Page.Lsn == m.Page.Lsn && slices.Equal(l.Page.Slots, m.Page.Slots)
	})
}

// wrongPages are no pages, each by one thing; the pages 0, 2 and 5 are among all of them that have some.
func wrongPages() [][]api.Leaf {
	wrong := []api.Leaf{
		leaf(-1, 0), leaf(1024, 0), leaf(math.MinInt, 0), leaf(math.MaxInt, 0),
		leaf(0, 0), leaf(2, 0), leaf(5, 3, rec("a")),
		leaf(7, -1), leaf(7, top+1), leaf(7, math.MinInt),
		leaf(7, 0, none), leaf(7, 0, rec("a"), none), leaf(7, 0, api.Slot{Data: "a"}),
		leaf(7, 0, rec(strings.Repeat("a", 201))),
		leaf(7, 0, rec(strings.Repeat("a", 200)), rec(strings.Repeat("a", 30))),
		leaf(7, 0, slices.Repeat([]api.Slot{rec("")}, 33)...),
	}
	var all [][]api.Leaf
	for _, x := range wrong {
		all = append(all, []api.Leaf{leaf(0, 0), leaf(2, 0), leaf(5, 0), x}, []api.Leaf{x, leaf(2, 0), leaf(0, 0), x, leaf(5, 0)})
	}
	return all
}

// wrongEntries are no entries, each by one thing.
func wrongEntries() []api.Entry {
	return []api.Entry{
		{},
		{Txn: a, Lsn: 3},
		{Kind: 5, Txn: a, Lsn: 3},
		{Kind: -1, Txn: a, Lsn: 3},
		bare(a, 0, 0), bare(a, -1, -2), bare(a, top+1, 0), bare(a, 3, 3), bare(a, 3, -1),
		bare(txn(0, 1, 1), 3, 0), bare(txn(9, 1, 1), 3, 0), bare(txn(1, 0, 1), 3, 0), bare(txn(1, 1, 1<<30+1), 3, 0),
		bareUndo(a, 3, 1, 2), bareUndo(a, 3, 1, -1),
		{Kind: api.Change, Txn: a, Lsn: 3, Prev: 1, Next: 1},
		{Kind: api.Commit, Txn: a, Lsn: 3, Page: 1},
		{Kind: api.End, Txn: a, Lsn: 3, Is: rec("")},
		change(a, 3, 0, -1, 0, none, none), change(a, 3, 0, 1024, 0, none, none),
		change(a, 3, 0, 0, -1, none, none), change(a, 3, 0, 0, 32, none, none),
		change(a, 3, 0, 0, 0, api.Slot{Data: "a"}, none), change(a, 3, 0, 0, 0, none, rec(strings.Repeat("a", 201))),
		{Kind: math.MaxInt, Txn: txn(math.MinInt, math.MaxInt, math.MinInt), Lsn: math.MinInt, Prev: math.MaxInt, Page: math.MinInt, Slot: math.MaxInt, Next: math.MinInt},
	}
}

func redoes(t *testing.T, list []api.Entry, pages, want []api.Leaf, e api.Errno) {
	t.Helper()
	if got, e2 := mend.Redo(list, pages); !samePages(got, want) || e2 != e {
		t.Errorf("Redo(%v, %v): %v, %d, wanted %v, %d", list, pages, got, e2, want, e)
	}
}

// undoes: what Undo adds, and how it leaves pages.
func undoes(t *testing.T, list []api.Entry, pages []api.Leaf, client int, added []api.Entry, left []api.Leaf) {
	t.Helper()
	if x, p, e := mend.Undo(list, pages, client); !slices.Equal(x, added) || !samePages(p, left) || e != 0 {
		t.Errorf("Undo(%v, %v, %d): %v, %v, %d, wanted %v, %v", list, pages, client, x, p, e, added, left)
	}
}

// adds: the Lsns of what Undo of bare entries adds to list, each below 0 if it is an End.
func adds(t *testing.T, list []api.Entry, lsns ...int) {
	t.Helper()
	added, _, e := mend.Undo(list, []api.Leaf{leaf(0, 0)}, 0)
	var got []int
	for _, x := range added {
		if x.Kind == api.End {
			x.Lsn = -x.Lsn
		}
		got = append(got, x.Lsn)
	}
	if e != 0 || !slices.Equal(got, lsns) {
		t.Errorf("Undo(%v): %v, %d, wanted %v", list, added, e, lsns)
	}
}

func refuses(t *testing.T, list []api.Entry, pages []api.Leaf, client int, e api.Errno) {
	t.Helper()
	if x, p, e2 := mend.Undo(list, pages, client); len(x) != 0 || len(p) != 0 || e2 != e {
		t.Errorf("Undo(%v, %v, %d): %v, %v, %d, wanted %d", list, pages, client, x, p, e2, e)
	}
}

// P18.1

func TestRedo(t *testing.T) {
	list := []api.Entry{
		change(a, 5, 0, 0, 0, none, rec("a")),
		change(b, 6, 0, 2, 1, none, rec("x")),
		undo(a, 6, 5, 0, 0, rec("a"), none, 0),
		commit(b, 7, 6),
		change(c, 9, 0, 0, 1, none, rec("c")),
	}
	behind := []api.Leaf{leaf(2, 6, none, rec("x")), leaf(5, 3, rec("z")), leaf(0, 9, none, rec("c"))}
	redoes(t, list, []api.Leaf{leaf(2, 0), leaf(5, 3, rec("z")), leaf(0, 0)}, behind, 0)
	redoes(t, list, []api.Leaf{leaf(2, 6, none, rec("x")), leaf(5, 3, rec("z")), leaf(0, 5, rec("a"))}, behind, 0)
	redoes(t, list, []api.Leaf{leaf(2, 3), leaf(5, 3, rec("z")), leaf(0, 6)}, behind, 0)
	redoes(t, list, behind, behind, 0)
	redoes(t, list, []api.Leaf{leaf(0, top, rec("new")), leaf(2, 8)}, []api.Leaf{leaf(0, top, rec("new")), leaf(2, 8)}, 0)
}

func TestRedoOfNothing(t *testing.T) {
	redoes(t, nil, nil, nil, 0)
	redoes(t, []api.Entry{}, []api.Leaf{}, nil, 0)
	redoes(t, []api.Entry{commit(a, 2, 1), end(b, 3, 2)}, nil, nil, 0)
	redoes(t, nil, []api.Leaf{leaf(1023, top, rec("a")), leaf(0, 0)}, []api.Leaf{leaf(1023, top, rec("a")), leaf(0, 0)}, 0)
	redoes(t, []api.Entry{commit(a, 2, 1)}, []api.Leaf{leaf(3, 1, rec("a"))}, []api.Leaf{leaf(3, 1, rec("a"))}, 0)
}

// allRefuse: each of the three calls says ErrArg.
func allRefuse(t *testing.T, list []api.Entry, pages []api.Leaf) {
	t.Helper()
	redoes(t, list, pages, nil, api.ErrArg)
	for _, client := range []int{0, 1, 8} {
		refuses(t, list, pages, client, api.ErrArg)
	}
	if x, p, e := mend.Restart(list, pages); len(x) != 0 || len(p) != 0 || e != api.ErrArg {
		t.Errorf("Restart(%v, %v): %v, %v, %d", list, pages, x, p, e)
	}
}

func TestWrongPages(t *testing.T) {
	for _, pages := range wrongPages() {
		allRefuse(t, nil, pages)
		allRefuse(t, []api.Entry{change(a, 1, 0, 0, 0, none, rec("a"))}, pages)
	}
}

func TestWrongEntries(t *testing.T) {
	pages := []api.Leaf{leaf(0, 0), leaf(1, 0)}
	for _, x := range wrongEntries() {
		if entry.Good(x) {
			t.Fatalf("%v is one", x)
		}
		allRefuse(t, []api.Entry{x}, pages)
		allRefuse(t, []api.Entry{bare(a, 1, 0), x, commit(a, 2, 1)}, pages)
		// Redo of the one ahead would be ErrSlot, its undoing ErrForm.
		allRefuse(t, []api.Entry{undo(b, 5, 4, 0, 0, rec("a"), none, 3), x}, pages)
	}
}

func TestPagesThatAreNotThere(t *testing.T) {
	pages := []api.Leaf{leaf(1, 0), leaf(3, 0)}
	for _, n := range []int{0, 2, 4, 1023} {
		allRefuse(t, []api.Entry{change(a, 1, 0, n, 0, none, none)}, pages)
		allRefuse(t, []api.Entry{undo(a, 1, 0, n, 0, none, none, 0), commit(a, 2, 1)}, pages)
		allRefuse(t, []api.Entry{change(a, 1, 0, 1, 0, rec("a"), none), change(a, 2, 1, n, 0, none, none)}, pages)
		allRefuse(t, []api.Entry{change(a, 1, 0, n, 0, none, none)}, nil)
	}
	// A Commit and an End are of no page, though their Page is 0.
	redoes(t, []api.Entry{commit(a, 1, 0), end(b, 1, 0)}, pages, pages, 0)
	undoes(t, []api.Entry{commit(a, 1, 0), end(b, 1, 0)}, pages, 0, nil, pages)
}

// The first error is that of the page that stands first, whichever entry stands first.
func TestRedoErrors(t *testing.T) {
	big := rec(strings.Repeat("a", 150))
	list := []api.Entry{
		change(a, 1, 0, 0, 0, none, big),
		change(a, 2, 1, 2, 0, rec("?"), none),
		change(a, 3, 2, 0, 1, none, big),
		change(a, 4, 3, 0, 5, rec("?"), none),
	}
	redoes(t, list, []api.Leaf{leaf(1, 0), leaf(0, 0), leaf(2, 0)}, nil, api.ErrPageFull)
	redoes(t, list, []api.Leaf{leaf(2, 0), leaf(0, 0), leaf(1, 0)}, nil, api.ErrSlot)
	redoes(t, list, []api.Leaf{leaf(2, 2), leaf(0, 0)}, nil, api.ErrPageFull)
	redoes(t, list, []api.Leaf{leaf(0, 3), leaf(2, 2)}, nil, api.ErrSlot)
	redoes(t, list, []api.Leaf{leaf(0, 4), leaf(2, 2)}, []api.Leaf{leaf(0, 4), leaf(2, 2)}, 0)
}

// P18.2

func TestTheExample(t *testing.T) {
	list := []api.Entry{change(a, 1, 0, 4, 0, none, rec("a"))}
	added := []api.Entry{undo(a, 2, 1, 4, 0, rec("a"), none, 0), end(a, 3, 2)}
	undoes(t, list, []api.Leaf{leaf(4, 1, rec("a"))}, 0, added, []api.Leaf{leaf(4, 2)})
	for _, before := range []api.Leaf{leaf(4, 0), leaf(4, 1, rec("a"))} {
		x, p, e := mend.Restart(list, []api.Leaf{before})
		if e != 0 || !slices.Equal(x, added) || !samePages(p, []api.Leaf{leaf(4, 2)}) || len(mend.Rows(p)) != 0 {
			t.Error(x, p, e)
		}
	}
}

// Those that are at their end stay, whatever else they have; of the others those of the client.
func TestWhoIsUndone(t *testing.T) {
	older := txn(1, 1, 9)
	list := []api.Entry{
		change(b, 1, 0, 0, 0, none, rec("b")),
		change(older, 2, 0, 1, 0, none, rec("o")),
		commit(c, 9, 0),
		change(a, 4, 0, 2, 0, none, rec("a")),
		change(c, 10, 9, 3, 0, none, rec("c")),
		end(txn(4, 1, 1), 1, 0),
	}
	pages := []api.Leaf{leaf(0, 1, rec("b")), leaf(1, 2, rec("o")), leaf(2, 4, rec("a")), leaf(3, 10, rec("c"))}
	undoA, undoO, undoB := undo(a, 5, 4, 2, 0, rec("a"), none, 0), undo(older, 3, 2, 1, 0, rec("o"), none, 0), undo(b, 2, 1, 0, 0, rec("b"), none, 0)
	undoes(t, list, pages, 0, []api.Entry{undoA, undoO, undoB, end(a, 6, 5), end(older, 4, 3), end(b, 3, 2)}, []api.Leaf{leaf(0, 2), leaf(1, 3), leaf(2, 5), pages[3]})
	undoes(t, list, pages, 1, []api.Entry{undoA, undoO, end(a, 6, 5), end(older, 4, 3)}, []api.Leaf{pages[0], leaf(1, 3), leaf(2, 5), pages[3]})
	undoes(t, list, pages, 2, []api.Entry{undoB, end(b, 3, 2)}, []api.Leaf{leaf(0, 2), pages[1], pages[2], pages[3]})
	for _, client := range []int{3, 4, 5, 8} {
		undoes(t, list, pages, client, nil, pages)
	}
	for _, client := range []int{-1, 9, math.MinInt, math.MaxInt} {
		refuses(t, list, pages, client, api.ErrArg)
		refuses(t, nil, nil, client, api.ErrArg)
	}
	undoes(t, nil, nil, 0, nil, nil)
	undoes(t, []api.Entry{bare(txn(8, 1, 1), 1, 0)}, []api.Leaf{leaf(0, 1)}, 8, []api.Entry{bareUndo(txn(8, 1, 1), 2, 1, 0), end(txn(8, 1, 1), 3, 2)}, []api.Leaf{leaf(0, 2)})
}

// Of all that is next the one goes first that stands last, whatever its Lsn; each Undo goes on from its transaction's last entry and its page.
func TestNewestFirst(t *testing.T) {
	list := []api.Entry{
		change(b, 7, 0, 0, 0, none, rec("1")),
		change(a, 20, 0, 1, 0, none, rec("2")),
		change(b, 9, 7, 0, 1, none, rec("3")),
		change(a, 30, 20, 1, 1, none, rec("4")),
		change(b, 11, 9, 2, 0, none, rec("5")),
	}
	pages := []api.Leaf{leaf(0, 9, rec("1"), rec("3")), leaf(1, 30, rec("2"), rec("4")), leaf(2, 11, rec("5"))}
	undoes(t, list, pages, 0, []api.Entry{
		undo(b, 12, 11, 2, 0, rec("5"), none, 9),
		undo(a, 31, 30, 1, 1, rec("4"), none, 20),
		undo(b, 13, 12, 0, 1, rec("3"), none, 7),
		undo(a, 32, 31, 1, 0, rec("2"), none, 0),
		undo(b, 14, 13, 0, 0, rec("1"), none, 0),
		end(a, 33, 32), end(b, 15, 14),
	}, []api.Leaf{leaf(0, 14), leaf(1, 32), leaf(2, 12)})
}

// The Lsn is above the page's, too, also above what was added by another loser.
func TestLsnOfAnUndo(t *testing.T) {
	list := []api.Entry{change(a, 3, 0, 0, 0, none, rec("a")), change(b, 4, 0, 0, 1, none, rec("b")), change(a, 5, 3, 1, 0, none, rec("c"))}
	undoes(t, list, []api.Leaf{leaf(0, 50, rec("a"), rec("b")), leaf(1, 2, rec("c"))}, 0, []api.Entry{
		undo(a, 6, 5, 1, 0, rec("c"), none, 3),
		undo(b, 51, 4, 0, 1, rec("b"), none, 0),
		undo(a, 52, 6, 0, 0, rec("a"), none, 0),
		end(a, 53, 52), end(b, 52, 51),
	}, []api.Leaf{leaf(0, 52), leaf(1, 6)})
}

// What was undone isn't undone again: an Undo that stands last leads on by its Next, over other Undos, too, and by the Prev of what it leads to.
func TestUndoingGoesOn(t *testing.T) {
	list := []api.Entry{bare(a, 1, 0), bare(a, 2, 1), bareUndo(a, 3, 2, 1), bare(a, 4, 3), bare(a, 5, 4), bareUndo(a, 6, 5, 4), bareUndo(a, 7, 6, 3)}
	for k, undos := range map[int][]int{1: {1}, 2: {2, 1}, 3: {1}, 4: {4, 1}, 5: {5, 4, 1}, 6: {4, 1}, 7: {1}} {
		added, _, e := mend.Undo(list[:k], []api.Leaf{leaf(0, 0)}, 0)
		if e != 0 || len(added) != len(undos)+1 || added[len(undos)] != end(a, k+len(undos)+1, k+len(undos)) {
			t.Fatal(k, added, e)
		}
		for i, lsn := range undos {
			if added[i] != bareUndo(a, k+i+1, k+i, list[lsn-1].Prev) {
				t.Error(k, i, added[i])
			}
		}
	}
}

// A loser that has no next one gets its End alone, in its place by the names.
func TestEnds(t *testing.T) {
	x, y, z := txn(1, 2, 1), txn(1, 1, 30), txn(2, 1, 4)
	list := []api.Entry{bareUndo(z, 9, 4, 0), bare(x, 3, 2), bareUndo(y, 6, 5, 0), bareUndo(x, 4, 3, 0)}
	undoes(t, list, []api.Leaf{leaf(0, 70)}, 0, []api.Entry{end(y, 7, 6), end(x, 5, 4), end(z, 10, 9)}, []api.Leaf{leaf(0, 70)})
}

func TestAstray(t *testing.T) {
	pages := []api.Leaf{leaf(0, 0)}
	astray := [][]api.Entry{
		{bareUndo(a, 9, 8, 5)},
		{bareUndo(a, 9, 8, 8)},
		{bare(a, 4, 0), bareUndo(a, 9, 8, 5)},
		{bare(a, 5, 0), bareUndo(a, 7, 5, 4), bareUndo(a, 9, 8, 7)},
		{bare(a, 5, 0), bareUndo(b, 9, 8, 5)},
		{bare(txn(1, 1, 2), 5, 0), bareUndo(a, 9, 8, 5)},
		{bare(txn(1, 2, 1), 5, 0), bareUndo(a, 9, 8, 5)},
		// Behind the first undoing.
		{bare(a, 9, 5)},
		{bare(a, 4, 0), bare(a, 9, 5)},
		{bareUndo(a, 5, 4, 3), bare(a, 9, 5)},
		{bare(a, 9, 5), bareUndo(a, 12, 11, 9)},
		// Of one, while another one has nothing to be undone, or much.
		{bareUndo(b, 3, 2, 0), bareUndo(a, 9, 8, 5)},
		{bareUndo(a, 9, 8, 5), bare(b, 1, 0), bare(b, 2, 1)},
		{bare(a, 9, 5), bare(b, 1, 0), bare(b, 2, 1)},
	}
	for _, list := range astray {
		refuses(t, list, pages, 0, api.ErrForm)
		if x, p, e := mend.Restart(list, pages); len(x) != 0 || len(p) != 0 || e != api.ErrForm {
			t.Errorf("Restart(%v): %v, %v, %d", list, x, p, e)
		}
		refuses(t, append([]api.Entry{commit(c, 1, 0)}, list...), pages, 0, api.ErrForm)
		undoes(t, list, pages, 5, nil, pages)
	}
	// Of others than the client's losers nothing is asked.
	list := []api.Entry{bareUndo(b, 9, 8, 5), bare(a, 1, 0), bareUndo(c, 9, 8, 5), end(c, 10, 9)}
	undoes(t, list, pages, 1, []api.Entry{bareUndo(a, 2, 1, 0), end(a, 3, 2)}, []api.Leaf{leaf(0, 2)})
	undoes(t, list, pages, 3, nil, pages)
	refuses(t, list, pages, 2, api.ErrForm)
	// Nor of an Undo by whose Next nobody goes.
	adds(t, []api.Entry{bareUndo(a, 9, 8, 5), bareUndo(a, 10, 9, 0)}, -11)
	adds(t, []api.Entry{bareUndo(a, 9, 8, 5), bare(a, 10, 0)}, 11, -12)
	adds(t, []api.Entry{bare(a, 3, 0), bareUndo(a, 9, 8, 5), bareUndo(a, 10, 9, 3)}, 11, -12)
}

// Of several entries of one transaction with one Lsn a Next leads to the first.
func TestTheFirstSuch(t *testing.T) {
	adds(t, []api.Entry{bare(a, 2, 0), bare(a, 2, 1), bareUndo(a, 4, 3, 2)}, 5, -6)
	adds(t, []api.Entry{bareUndo(a, 2, 0, 0), bare(a, 2, 1), bareUndo(a, 4, 3, 2)}, -5)
	adds(t, []api.Entry{bare(b, 2, 1), bare(a, 2, 0), bareUndo(a, 4, 3, 2), commit(b, 7, 6)}, 5, -6)
	refuses(t, []api.Entry{bareUndo(a, 2, 1, 1), bare(a, 2, 0), bareUndo(a, 4, 3, 2)}, []api.Leaf{leaf(0, 0)}, 0, api.ErrForm)
	refuses(t, []api.Entry{bare(a, 2, 1), bare(a, 2, 0), bareUndo(a, 4, 3, 2)}, []api.Leaf{leaf(0, 0)}, 0, api.ErrForm)
}

// The last one is next as it is, where it has the Lsn of another one, too; but it stands where the first one does.
func TestWhereItStands(t *testing.T) {
	list := []api.Entry{
		change(a, 2, 0, 0, 0, none, rec("0")),
		change(b, 1, 0, 1, 0, none, rec("b")),
		change(a, 2, 1, 0, 1, none, rec("1")),
		change(a, 2, 0, 0, 2, none, rec("2")),
	}
	pages := []api.Leaf{leaf(0, 2, rec("0"), rec("1"), rec("2")), leaf(1, 1, rec("b"))}
	undoes(t, list, pages, 0, []api.Entry{undo(b, 2, 1, 1, 0, rec("b"), none, 0), undo(a, 3, 2, 0, 2, rec("2"), none, 0), end(a, 4, 3), end(b, 3, 2)}, []api.Leaf{leaf(0, 3, rec("0"), rec("1")), leaf(1, 2)})
}

// Entries in an order that isn't that of their Lsns: what is next may stand behind what was undone.
func TestOutOfOrder(t *testing.T) {
	list := []api.Entry{bare(b, 5, 4), bare(a, 1, 0), bare(b, 2, 0), bare(a, 9, 1), bare(b, 4, 2), bareUndo(b, 6, 5, 5)}
	added, _, e := mend.Undo(list, []api.Leaf{leaf(0, 0)}, 0)
	want := []api.Entry{bareUndo(a, 10, 9, 1), bareUndo(a, 11, 10, 0), bareUndo(b, 12, 6, 4), bareUndo(b, 13, 12, 2), bareUndo(b, 14, 13, 0), end(a, 12, 11), end(b, 15, 14)}
	if e != 0 || !slices.Equal(added, want) {
		t.Error(added, e)
	}
}

func TestLast(t *testing.T) {
	for _, lsn := range []int{top, top - 1} {
		refuses(t, []api.Entry{bare(a, lsn, 0)}, []api.Leaf{leaf(0, 0)}, 0, api.ErrLast)
		refuses(t, []api.Entry{bare(a, 1, 0)}, []api.Leaf{leaf(0, lsn)}, 0, api.ErrLast)
		refuses(t, []api.Entry{bare(a, 1, 0), bareUndo(a, lsn, 1, 1)}, []api.Leaf{leaf(0, 0)}, 1, api.ErrLast)
	}
	refuses(t, []api.Entry{bareUndo(a, top, 1, 0)}, []api.Leaf{leaf(0, 0)}, 0, api.ErrLast)
	refuses(t, []api.Entry{bareUndo(a, 5, 1, 0), bareUndo(b, top, 1, 0)}, []api.Leaf{leaf(0, 0)}, 0, api.ErrLast)
	adds(t, []api.Entry{bareUndo(a, top-1, 1, 0)}, -top)
	adds(t, []api.Entry{bare(a, top-2, 0)}, top-1, -top)
	undoes(t, []api.Entry{bare(a, 1, 0)}, []api.Leaf{leaf(0, top-2)}, 0, []api.Entry{bareUndo(a, top-1, 1, 0), end(a, top, top-1)}, []api.Leaf{leaf(0, top-1)})
	// Nothing is told of those that are done, or of others.
	undoes(t, []api.Entry{bare(a, top-1, 0), commit(a, top, top-1), bare(b, top, 0)}, []api.Leaf{leaf(0, top)}, 1, nil, []api.Leaf{leaf(0, top)})
}

// Pages aren't redone ahead of it; what they can't have undone is told.
func TestPagesThatAreOther(t *testing.T) {
	list := []api.Entry{change(a, 1, 0, 0, 0, none, rec("a")), change(a, 2, 1, 1, 0, rec(strings.Repeat("b", 200)), rec("c"))}
	good := []api.Leaf{leaf(0, 1, rec("a")), leaf(1, 2, rec("c"))}
	undoes(t, list, good, 1, []api.Entry{undo(a, 3, 2, 1, 0, rec("c"), rec(strings.Repeat("b", 200)), 1), undo(a, 4, 3, 0, 0, rec("a"), none, 0), end(a, 5, 4)}, []api.Leaf{leaf(0, 4), leaf(1, 3, rec(strings.Repeat("b", 200)))})
	for _, at0 := range []api.Leaf{leaf(0, 0), leaf(0, 1, rec("b")), leaf(0, 1, none, rec("a"))} {
		refuses(t, list, []api.Leaf{at0, good[1]}, 0, api.ErrSlot)
	}
	full := leaf(1, 2, rec("c"), rec(strings.Repeat("d", 30)))
	refuses(t, list, []api.Leaf{good[0], full}, 0, api.ErrPageFull)
	refuses(t, list, []api.Leaf{leaf(0, 0), full}, 0, api.ErrPageFull)
	refuses(t, list, []api.Leaf{leaf(0, 0), leaf(1, 0)}, 0, api.ErrSlot)
	full.Page.Slots[1] = rec(strings.Repeat("d", 29))
	if _, p, e := mend.Undo(list, []api.Leaf{good[0], full}, 0); e != 0 || slab.Size(p[1].Page) != 240 {
		t.Error(p, e)
	}
}

// Which error is told, where there are several: ErrArg, then what leads astray from the beginning, then what is met first.
func TestWhichError(t *testing.T) {
	bad := change(c, 3, 2, 0, 0, rec("?"), rec("!")) // the page can't undo it; it leads astray, once it is undone
	astray := bareUndo(b, 9, 8, 5)
	later := bare(b, 7, 5)
	pages := []api.Leaf{leaf(0, 0)}
	refuses(t, []api.Entry{bad}, pages, 0, api.ErrSlot)
	refuses(t, []api.Entry{astray, bad}, pages, 0, api.ErrForm)
	refuses(t, []api.Entry{bad, astray}, pages, 0, api.ErrForm)
	refuses(t, []api.Entry{later, bad}, pages, 0, api.ErrSlot)
	refuses(t, []api.Entry{bad, later}, pages, 0, api.ErrForm)
	refuses(t, []api.Entry{bad, bare(a, top, 0)}, pages, 0, api.ErrLast)
	refuses(t, []api.Entry{bare(a, top, 0), bad}, pages, 0, api.ErrSlot)
	refuses(t, []api.Entry{bad}, []api.Leaf{leaf(0, top)}, 0, api.ErrLast)
	refuses(t, []api.Entry{bareUndo(a, top, 1, 0), bad}, pages, 0, api.ErrSlot)
	refuses(t, []api.Entry{astray, bare(a, top, 0)}, pages, 0, api.ErrForm)
	refuses(t, []api.Entry{astray, bare(a, top, 0)}, pages, 9, api.ErrArg)
	refuses(t, []api.Entry{astray, bare(a, top, 0)}, nil, 0, api.ErrArg)
}

// P18.3

func TestRestartErrors(t *testing.T) {
	restarts := func(list []api.Entry, pages []api.Leaf, want api.Errno) {
		t.Helper()
		if x, p, e := mend.Restart(list, pages); len(x) != 0 || len(p) != 0 || e != want {
			t.Errorf("Restart(%v, %v): %v, %v, %d, wanted %d", list, pages, x, p, e, want)
		}
	}
	astray := bareUndo(b, 9, 8, 5)
	restarts([]api.Entry{astray, change(a, 10, 0, 0, 0, rec("?"), none)}, []api.Leaf{leaf(0, 0)}, api.ErrSlot)
	restarts([]api.Entry{astray, commit(a, 10, 0)}, []api.Leaf{leaf(0, 0)}, api.ErrForm)
	restarts([]api.Entry{bare(a, 1, 0)}, []api.Leaf{leaf(0, top)}, api.ErrLast)
	restarts([]api.Entry{bare(a, 1, 0), bare(b, 2, 0)}, []api.Leaf{leaf(0, top-2)}, api.ErrLast)
	// Of an image that the log never led to.
	restarts([]api.Entry{change(a, 3, 0, 0, 0, none, rec("a"))}, []api.Leaf{leaf(0, 3, rec("b"))}, api.ErrSlot)
}

// P18.4

func backs(t *testing.T, list []api.Entry, name api.Txn, down int, want api.Entry, ok bool) {
	t.Helper()
	if x, ok2 := mend.Back(list, name, down); x != want || ok2 != ok {
		t.Errorf("Back(%v, %v, %d): %v, %t, wanted %v, %t", list, name, down, x, ok2, want, ok)
	}
}

func TestBack(t *testing.T) {
	list := []api.Entry{bare(a, 4, 0), bare(b, 5, 0), bare(a, 6, 4), bareUndo(a, 7, 6, 4), bare(a, 8, 7), bareUndo(a, 9, 8, 7), commit(b, 10, 5)}
	for _, down := range []int{math.MinInt, -1, 0, 3} {
		backs(t, list[:1], a, down, list[0], true)
		backs(t, list[:3], a, down, list[2], true)
		backs(t, list[:4], a, down, list[0], true)
		backs(t, list[:5], a, down, list[4], true)
		backs(t, list, a, down, list[0], true)
		backs(t, list[:6], b, down, list[1], true)
		backs(t, list, b, down, api.Entry{}, false)
		backs(t, list, c, down, api.Entry{}, false)
		backs(t, list, api.Txn{}, down, api.Entry{}, false)
		backs(t, nil, a, down, api.Entry{}, false)
		backs(t, append(slices.Clone(list), bareUndo(a, 10, 9, 0)), a, down, api.Entry{}, false)
		backs(t, append(slices.Clone(list), end(a, 10, 9)), a, down, api.Entry{}, false)
		backs(t, []api.Entry{end(a, 10, 9), bare(a, 11, 4)}, a, down, bare(a, 11, 4), true)
	}
	backs(t, list, a, 4, api.Entry{}, false)
	backs(t, list[:5], a, 7, list[4], true)
	for _, down := range []int{8, 9, top, math.MaxInt} {
		backs(t, list[:5], a, down, api.Entry{}, false)
	}
	whole := undo(a, top-1, top-2, 1023, 31, rec("\x00"), rec("\xff"), 7)
	last := change(a, 7, 3, 1023, 31, rec("\xff"), rec("\x00"))
	backs(t, []api.Entry{last, whole}, a, 6, last, true)
}

func TestBackAstray(t *testing.T) {
	for _, list := range [][]api.Entry{
		{bareUndo(a, 9, 8, 5)},
		{bare(b, 5, 0), bareUndo(a, 9, 8, 5)},
		{bare(a, 4, 0), bareUndo(a, 5, 4, 3), bareUndo(a, 9, 8, 5)},
		{commit(a, 5, 4), bareUndo(a, 9, 8, 5)},
		{end(a, 5, 4), bareUndo(a, 9, 8, 5)},
		{end(a, 5, 4), bare(a, 5, 4), bareUndo(a, 9, 8, 5)},
		{bare(a, 5, 0), bareUndo(a, 9, 8, 5), commit(a, 10, 9)},
	} {
		backs(t, list, a, 0, api.Entry{}, false)
	}
	backs(t, []api.Entry{bare(a, 5, 1), bare(a, 5, 0), end(a, 5, 4), bareUndo(a, 9, 8, 5)}, a, 0, bare(a, 5, 1), true)
}

// What is no entry is passed over, though it may say that it is of the transaction.
func TestBackOfNoEntries(t *testing.T) {
	for _, x := range wrongEntries() {
		backs(t, []api.Entry{x}, x.Txn, math.MinInt, api.Entry{}, false)
		backs(t, []api.Entry{x, bare(a, 3, 0), x, bareUndo(a, 5, 4, 3), x}, a, 0, bare(a, 3, 0), true)
	}
}

func rows(t *testing.T, pages []api.Leaf, want ...api.Row) {
	t.Helper()
	if got := mend.Rows(pages); !slices.Equal(got, want) {
		t.Errorf("Rows(%v): %v, wanted %v", pages, got, want)
	}
}

func TestRows(t *testing.T) {
	rows(t, nil)
	rows(t, []api.Leaf{leaf(3, 7), leaf(0, 0)})
	pages := []api.Leaf{leaf(1023, 1, none, rec("z")), leaf(2, 0, rec(""), none, rec("y")), leaf(10, 0, rec("x"), rec("w")), leaf(0, top, rec("\x00"))}
	rows(t, pages, api.Row{Page: 0, Slot: 0, Data: "\x00"}, api.Row{Page: 2, Slot: 0}, api.Row{Page: 2, Slot: 2, Data: "y"}, api.Row{Page: 10, Slot: 0, Data: "x"}, api.Row{Page: 10, Slot: 1, Data: "w"}, api.Row{Page: 1023, Slot: 1, Data: "z"})
	whole := slices.Repeat([]api.Slot{rec("abcde")}, 32)
	var want []api.Row
	for slot := range whole {
		want = append(want, api.Row{Page: 5, Slot: slot, Data: "abcde"})
	}
	rows(t, []api.Leaf{leaf(5, 9, whole...)}, want...)
}

// Of several pages of one number the first counts, also where that isn't good.
func TestRowsOfWrongPages(t *testing.T) {
	one := api.Row{Page: 7, Slot: 0, Data: "a"}
	rows(t, []api.Leaf{leaf(7, 0, rec("a")), leaf(7, 9, rec("b")), leaf(7, 0)}, one)
	rows(t, []api.Leaf{leaf(7, 0), leaf(7, 9, rec("b"))})
	for _, pages := range wrongPages() {
		at := slices.IndexFunc(pages, func(l api.Leaf) bool { return l.N == 7 })
		if at < 0 {
			continue
		}
		rows(t, append([]api.Leaf{leaf(7, 0, rec("a"))}, pages...), one)
		rows(t, append(slices.Clone(pages), leaf(7, 0, rec("a"))))
	}
	for _, n := range []int{-1, 1024, math.MinInt, math.MaxInt} {
		rows(t, []api.Leaf{leaf(n, 0, rec("n")), leaf(7, 0, rec("a")), leaf(n, 0, rec("n"))}, one)
	}
}

// What is answered is new memory, and what is handed in is as it was, its spare room too.
func TestNewMemory(t *testing.T) {
	listRoom := []api.Entry{change(a, 1, 0, 0, 0, none, rec("a")), change(b, 2, 0, 1, 0, none, rec("b")), bare(a, 3, 1), bare(c, 9, 0)}
	slotRoom := []api.Slot{rec("x"), rec("y"), rec("z")}
	pageRoom := []api.Leaf{leaf(0, 1, rec("a")), leaf(1, 2, rec("b")), {N: 2, Page: api.Page{Lsn: 5, Slots: slotRoom[:2]}}, leaf(7, 7)}
	copied := func() ([]api.Entry, []api.Slot, []api.Leaf) {
		var pages []api.Leaf
		for _, l := range pageRoom {
			pages = append(pages, api.Leaf{N: l.N, Page: api.Page{Lsn: l.Page.Lsn, Slots: slices.Clone(l.Page.Slots)}})
		}
		return slices.Clone(listRoom), slices.Clone(slotRoom), pages
	}
	wasList, wasSlots, wasPages := copied()
	asItWas := func(call string) {
		t.Helper()
		if !slices.Equal(listRoom, wasList) || !slices.Equal(slotRoom, wasSlots) || !samePages(pageRoom, wasPages) {
			t.Fatalf("%s changed what it was handed", call)
		}
	}
	list, pages := listRoom[:2], pageRoom[:3]
	type answer struct {
		added []api.Entry
		pages []api.Leaf
		rows  []api.Row
	}
	calls := map[string]func() answer{
		"Redo":    func() answer { p, _ := mend.Redo(list, pages); return answer{pages: p} },
		"Undo":    func() answer { x, p, _ := mend.Undo(list, pages, 1); return answer{added: x, pages: p} },
		"Restart": func() answer { x, p, _ := mend.Restart(list, pages); return answer{added: x, pages: p} },
		"Rows":    func() answer { return answer{rows: mend.Rows(pages)} },
	}
	for name, call := range calls {
		first, again := call(), call()
		asItWas(name)
		if !reflect.DeepEqual(first, again) || len(first.pages) != 3 && name != "Rows" {
			t.Errorf("%s: %v, then %v", name, first, again)
		}
		for _, l := range first.pages {
			for slot := range l.Page.Slots[:cap(l.Page.Slots)] {
				l.Page.Slots[:cap(l.Page.Slots)][slot] = rec("mine")
			}
		}
		asItWas(name)
		clear(first.added[:cap(first.added)])
		clear(first.pages[:cap(first.pages)])
		clear(first.rows[:cap(first.rows)])
		asItWas(name)
		if !reflect.DeepEqual(again, call()) {
			t.Errorf("%s: %v, then %v", name, again, call())
		}
	}
}

// No two pages of one answer share their slots' room.
func TestPagesShareNothing(t *testing.T) {
	slots := []api.Slot{rec("a"), rec("b"), rec("c"), rec("d")}
	pages := []api.Leaf{leaf(0, 0, slots[:2]...), leaf(1, 0, slots[2:]...)}
	for _, call := range []func() []api.Leaf{
		func() []api.Leaf { p, _ := mend.Redo(nil, pages); return p },
		func() []api.Leaf { _, p, _ := mend.Undo(nil, pages, 0); return p },
		func() []api.Leaf { _, p, _ := mend.Restart(nil, pages); return p },
	} {
		p := call()
		_ = append(p[0].Page.Slots, rec("e"), rec("f"))
		p[1].Page.Slots[0] = rec("g")
		if !samePages(p, []api.Leaf{leaf(0, 0, rec("a"), rec("b")), leaf(1, 0, rec("g"), rec("d"))}) || slots[2] != rec("c") {
			t.Error(p, slots)
		}
	}
}

// Long lists take no long time: of one transaction or of many, of one page or of all, Undos that lead to Undos.
func TestLongLists(t *testing.T) {
	const long = 1 << 17
	var all []api.Leaf
	for n := range 1024 {
		all = append(all, leaf(n, 0))
	}
	for _, names := range []int{1, 8, long} {
		var list []api.Entry
		prev := map[api.Txn]int{}
		for i := range long {
			name := txn(1+i%names%8, 1, 1+i%names)
			list = append(list, change(name, i+1, prev[name], i%1024, i/1024%32, none, none))
			prev[name] = i + 1
		}
		added, left, e := mend.Restart(list, all)
		if e != 0 || len(added) != long+names || len(left) != 1024 {
			t.Fatal(names, len(added), len(left), e)
		}
		for i, x := range added[:long] {
			if y := list[long-1-i]; x.Txn != y.Txn || x.Page != y.Page || x.Slot != y.Slot || x.Next != y.Prev {
				t.Fatal(names, i, x)
			}
		}
	}
	chain := []api.Entry{bare(a, 1, 0)}
	for i := range long {
		chain = append(chain, bareUndo(a, i+2, i+1, i+1))
	}
	adds(t, chain, long+2, -long-3)
	backs(t, chain, a, 0, chain[0], true)
}
