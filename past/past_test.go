package past_test

import (
	"math"
	"reflect"
	"slices"
	"strings"
	"testing"

	"seneschal/api"
	"seneschal/entry"
	"seneschal/past"
)

func txn(client, epoch, n int) api.Txn { return api.Txn{Client: client, Epoch: epoch, N: n} }

var a, b, c = txn(1, 1, 1), txn(1, 1, 2), txn(2, 1, 1)

// The entries of each kind, with an Lsn that no other thing hangs on.

func change(t api.Txn, lsn, page int) api.Entry {
	return api.Entry{Kind: api.Change, Txn: t, Lsn: lsn, Page: page, Is: api.Slot{Used: true, Data: "a"}}
}

func undo(t api.Txn, lsn, page int) api.Entry {
	return api.Entry{Kind: api.Undo, Txn: t, Lsn: lsn, Page: page, Was: api.Slot{Used: true, Data: "a"}}
}

func commit(t api.Txn, lsn int) api.Entry { return api.Entry{Kind: api.Commit, Txn: t, Lsn: lsn} }

func end(t api.Txn, lsn int) api.Entry { return api.Entry{Kind: api.End, Txn: t, Lsn: lsn} }

// none are no entries, each by one thing, though most of what they have is that of the transaction a.
func none() []api.Entry {
	return []api.Entry{
		{},
		{Txn: a, Lsn: 3},
		{Kind: 5, Txn: a, Lsn: 3},
		{Kind: -1, Txn: a, Lsn: 3, Page: 3},
		commit(a, 0),
		commit(a, -1),
		commit(a, 1<<40+1),
		{Kind: api.Commit, Txn: a, Lsn: 3, Prev: 3},
		{Kind: api.Commit, Txn: a, Lsn: 3, Prev: -1},
		{Kind: api.Commit, Txn: a, Lsn: 3, Page: 1},
		{Kind: api.Commit, Txn: a, Lsn: 3, Next: 1},
		{Kind: api.End, Txn: a, Lsn: 3, Slot: 1},
		{Kind: api.End, Txn: a, Lsn: 3, Is: api.Slot{Used: true}},
		change(a, 3, -1),
		change(a, 3, 1024),
		{Kind: api.Change, Txn: a, Lsn: 3, Page: 3, Slot: 32},
		{Kind: api.Change, Txn: a, Lsn: 3, Prev: 1, Page: 3, Next: 1},
		{Kind: api.Undo, Txn: a, Lsn: 3, Prev: 1, Page: 3, Next: 2},
		{Kind: api.Undo, Txn: a, Lsn: 3, Page: 3, Was: api.Slot{Data: "a"}},
		{Kind: api.Change, Txn: a, Lsn: 3, Page: 3, Is: api.Slot{Used: true, Data: strings.Repeat("a", 201)}},
		change(txn(0, 1, 1), 3, 3),
		change(txn(9, 1, 1), 3, 3),
		commit(txn(1, 0, 1), 3),
		commit(txn(1, 1<<30+1, 1), 3),
		end(txn(1, 1, 0), 3),
		end(txn(1, 1, 1<<30+1), 3),
		change(txn(math.MinInt, math.MaxInt, math.MinInt), math.MaxInt, math.MinInt),
	}
}

// reads: what a list tells from a number on.
func reads(t *testing.T, list []api.Entry, first int, losers []api.Loser, done []api.Txn, pages []api.First) {
	t.Helper()
	v := past.Read(list, first)
	if !slices.Equal(v.Losers, losers) || !slices.Equal(v.Done, done) || !slices.Equal(v.Pages, pages) {
		t.Errorf("Read(%v, %d): %v, wanted %v, %v, %v", list, first, v, losers, done, pages)
	}
}

func needs(t *testing.T, list []api.Entry, first, want int) {
	t.Helper()
	if n := past.Needed(list, first); n != want {
		t.Errorf("Needed(%v, %d): %d, wanted %d", list, first, n, want)
	}
}

func owns(t *testing.T, list []api.Entry, of api.Txn, want ...api.Entry) {
	t.Helper()
	if own := past.Of(list, of); !slices.Equal(own, want) {
		t.Errorf("Of(%v, %v): %v, wanted %v", list, of, own, want)
	}
}

// P17.1

func TestTheExample(t *testing.T) {
	list := []api.Entry{change(a, 1, 4), change(b, 1, 2), commit(a, 2)}
	reads(t, list, 7, []api.Loser{{Txn: b, Last: 1}}, []api.Txn{a}, []api.First{{Page: 2, N: 8}, {Page: 4, N: 7}})
	needs(t, list, 7, 8)
	owns(t, list, a, list[0], list[2])
	owns(t, list, b, list[1])
}

func TestNothing(t *testing.T) {
	for _, list := range [][]api.Entry{nil, {}, none()} {
		reads(t, list, 1, nil, nil, nil)
		needs(t, list, 1, 0)
		owns(t, list, a)
		owns(t, list, api.Txn{})
	}
}

// Any one entry makes a transaction, and only a Commit or an End is its end.
func TestOneEntry(t *testing.T) {
	reads(t, []api.Entry{change(a, 9, 0)}, 5, []api.Loser{{Txn: a, Last: 9}}, nil, []api.First{{Page: 0, N: 5}})
	reads(t, []api.Entry{undo(a, 9, 1023)}, 5, []api.Loser{{Txn: a, Last: 9}}, nil, []api.First{{Page: 1023, N: 5}})
	reads(t, []api.Entry{commit(a, 9)}, 5, nil, []api.Txn{a}, nil)
	reads(t, []api.Entry{end(a, 9)}, 5, nil, nil, nil)
	needs(t, []api.Entry{change(a, 9, 0)}, 5, 5)
	needs(t, []api.Entry{undo(a, 9, 0)}, 5, 5)
	needs(t, []api.Entry{commit(a, 9)}, 5, 0)
	needs(t, []api.Entry{end(a, 9)}, 5, 0)
}

// Losers stand by their names, whatever the order of their entries and Lsns; which part of a name counts first shows where the others are against it.
func TestLosersByName(t *testing.T) {
	names := []api.Txn{txn(1, 1, 1<<30), txn(1, 2, 3), txn(1, 2, 20), txn(1, 1<<30, 1), txn(2, 1, 2), txn(2, 1, 10), txn(8, 1, 1)}
	for shift := range names {
		var list []api.Entry
		var losers []api.Loser
		for i := range names {
			at := (3*i + shift) % len(names)
			list = append(list, change(names[at], 100-at, 0))
		}
		for at, name := range names {
			losers = append(losers, api.Loser{Txn: name, Last: 100 - at})
		}
		reads(t, list, 1, losers, nil, []api.First{{Page: 0, N: 1}})
	}
}

// The last entry is the one that stands last, whatever its kind or its Lsn; each transaction has its own.
func TestLastEntry(t *testing.T) {
	reads(t, []api.Entry{change(a, 8, 3), change(b, 9, 3), undo(a, 1<<40, 3), change(a, 5, 3)}, 1, []api.Loser{{Txn: a, Last: 5}, {Txn: b, Last: 9}}, nil, []api.First{{Page: 3, N: 1}})
	reads(t, []api.Entry{change(a, 8, 3), undo(a, 9, 3)}, 1, []api.Loser{{Txn: a, Last: 9}}, nil, []api.First{{Page: 3, N: 1}})
}

// Names that differ in one part are two transactions.
func TestNamesThatAreAlike(t *testing.T) {
	for _, other := range []api.Txn{txn(2, 1, 1), txn(1, 2, 1), txn(1, 1, 2)} {
		list := []api.Entry{change(other, 3, 0), change(a, 4, 0), commit(a, 5)}
		reads(t, list, 1, []api.Loser{{Txn: other, Last: 3}}, []api.Txn{a}, []api.First{{Page: 0, N: 1}})
		needs(t, list, 1, 1)
		owns(t, list, other, list[0])
		owns(t, list, a, list[1:]...)
	}
}

// A Commit or an End is a transaction's end wherever it stands, what comes behind it, too; Done goes by the first Commit.
func TestEnds(t *testing.T) {
	reads(t, []api.Entry{commit(b, 1), change(b, 2, 6), commit(a, 1), change(a, 2, 5)}, 1, nil, []api.Txn{b, a}, []api.First{{Page: 5, N: 4}, {Page: 6, N: 2}})
	reads(t, []api.Entry{end(a, 1), change(a, 2, 5), undo(a, 3, 5)}, 1, nil, nil, []api.First{{Page: 5, N: 2}})
	reads(t, []api.Entry{end(a, 1), commit(a, 2)}, 1, nil, []api.Txn{a}, nil)
	reads(t, []api.Entry{commit(a, 1), end(a, 2)}, 1, nil, []api.Txn{a}, nil)
	reads(t, []api.Entry{end(a, 1), end(a, 2), end(b, 1)}, 1, nil, nil, nil)
	reads(t, []api.Entry{commit(c, 1), commit(a, 1), commit(c, 2), commit(b, 1), commit(a, 2), commit(c, 3)}, 1, nil, []api.Txn{c, a, b}, nil)
}

// Pages rise, each with its first entry of either kind, whoever made it and however that one went on.
func TestPages(t *testing.T) {
	list := []api.Entry{commit(b, 1), change(a, 1, 1023), undo(a, 2, 9), change(c, 1, 9), undo(c, 2, 0), change(a, 3, 0), change(a, 4, 10), undo(a, 5, 1023), commit(a, 6)}
	reads(t, list, 1, []api.Loser{{Txn: c, Last: 2}}, []api.Txn{b, a}, []api.First{{Page: 0, N: 5}, {Page: 9, N: 3}, {Page: 10, N: 7}, {Page: 1023, N: 2}})
	var all []api.Entry
	var pages []api.First
	for page := range 1024 {
		all = append(all, change(a, 1, 1023-page))
		pages = append(pages, api.First{Page: page, N: 1<<40 + 1023 - page})
	}
	reads(t, all, 1<<40, []api.Loser{{Txn: a, Last: 1}}, nil, pages)
}

// What is no entry has a number, and tells nothing else: neither of a transaction that has entries nor of one that has none.
func TestWhatIsNoEntry(t *testing.T) {
	for _, x := range none() {
		if entry.Good(x) {
			t.Fatalf("%v is one", x)
		}
		reads(t, []api.Entry{x}, 1, nil, nil, nil)
		needs(t, []api.Entry{x}, 1, 0)
		owns(t, []api.Entry{x}, x.Txn)
		list := []api.Entry{x, change(a, 7, 3), x, undo(b, 8, 2), x}
		reads(t, list, 5, []api.Loser{{Txn: a, Last: 7}, {Txn: b, Last: 8}}, nil, []api.First{{Page: 2, N: 8}, {Page: 3, N: 6}})
		needs(t, list, 5, 6)
		owns(t, list, a, list[1])
		list = []api.Entry{x, change(a, 7, 3), x, undo(b, 8, 2), x, end(a, 9), x}
		reads(t, list, 5, []api.Loser{{Txn: b, Last: 8}}, nil, []api.First{{Page: 2, N: 8}, {Page: 3, N: 6}})
		needs(t, list, 5, 8)
		owns(t, list, a, list[1], list[5])
	}
}

func TestFirst(t *testing.T) {
	list := []api.Entry{{}, change(a, 1, 4), change(b, 1, 2)}
	losers := []api.Loser{{Txn: a, Last: 1}, {Txn: b, Last: 1}}
	for _, first := range []int{1, 2, 1 << 31, 1<<40 - 1, 1 << 40} {
		reads(t, list, first, losers, nil, []api.First{{Page: 2, N: first + 2}, {Page: 4, N: first + 1}})
		needs(t, list, first, first+1)
	}
	for _, first := range []int{0, -1, -1 << 40, 1<<40 + 1, 1 << 41, math.MinInt, math.MaxInt} {
		for _, list := range [][]api.Entry{list, {commit(a, 1)}, nil} {
			reads(t, list, first, nil, nil, nil)
			needs(t, list, first, 0)
		}
	}
}

// P17.2

// Each entry of the transaction is told, behind its end, too, in the order of the list, and as often as it stands there.
func TestOf(t *testing.T) {
	list := []api.Entry{change(a, 9, 1), change(b, 2, 1), commit(a, 8), end(c, 1), undo(a, 7, 3), undo(a, 7, 3), end(a, 6), commit(b, 1)}
	owns(t, list, a, list[0], list[2], list[4], list[5], list[6])
	owns(t, list, b, list[1], list[7])
	owns(t, list, c, list[3])
	for _, name := range []api.Txn{{}, txn(3, 1, 1), txn(1, 2, 1), txn(1, 1, 3), txn(-1, -1, -1), txn(math.MaxInt, math.MaxInt, math.MaxInt)} {
		owns(t, list, name)
	}
	whole := api.Entry{Kind: api.Undo, Txn: c, Lsn: 1 << 40, Prev: 1<<40 - 1, Page: 1023, Slot: 31, Was: api.Slot{Used: true, Data: "\x00\xff"}, Is: api.Slot{Used: true}, Next: 1<<40 - 1}
	owns(t, []api.Entry{whole}, c, whole)
}

// The first entry counts that stands first, not that of the least name or Lsn, nor that of one at its end.
func TestNeeded(t *testing.T) {
	needs(t, []api.Entry{change(c, 9, 1), change(a, 1, 1), change(b, 2, 1)}, 1, 1)
	needs(t, []api.Entry{change(c, 9, 1), change(b, 1, 1), change(a, 2, 1), end(c, 10)}, 1, 2)
	needs(t, []api.Entry{change(c, 9, 1), change(b, 1, 1), change(a, 2, 1), end(c, 10), commit(b, 2)}, 1, 3)
	needs(t, []api.Entry{change(c, 9, 1), change(b, 1, 1), change(a, 2, 1), end(c, 10), commit(b, 2), end(a, 3)}, 1, 0)
	needs(t, []api.Entry{end(c, 9), change(c, 10, 1), undo(b, 1, 1), change(b, 2, 1)}, 1, 3)
}

// Less is one order of all names, whatever numbers they have.
func TestLess(t *testing.T) {
	numbers := []int{math.MinInt, -1, 0, 1, 2, 10, 1 << 30, math.MaxInt}
	var names []api.Txn
	for _, client := range numbers {
		for _, epoch := range numbers {
			for _, n := range numbers {
				names = append(names, txn(client, epoch, n))
			}
		}
	}
	for i, x := range names {
		for k, y := range names {
			if past.Less(x, y) != (i < k) {
				t.Fatalf("Less(%v, %v): %t", x, y, i >= k)
			}
		}
	}
}

// P17.3

// Answers are new memory, and what is handed in is as it was, its spare room too.
func TestNewMemory(t *testing.T) {
	room := []api.Entry{change(b, 2, 4), change(a, 1, 3), commit(c, 1), commit(c, 2), {}, undo(a, 2, 2), change(a, 3, 1)}
	was := slices.Clone(room)
	list := room[:5]
	v, own := past.Read(list, 1), past.Of(list, a)
	past.Needed(list, 1)
	if !slices.Equal(room, was) {
		t.Errorf("the list is %v, it was %v", room, was)
	}
	w, again := past.Read(list, 1), past.Of(list, a)
	clear(v.Losers)
	clear(v.Done)
	clear(v.Pages)
	clear(own)
	_, _, _, _ = append(v.Losers, api.Loser{}), append(v.Done, b), append(v.Pages, api.First{}), append(own, api.Entry{})
	if !slices.Equal(room, was) || !reflect.DeepEqual(w, past.Read(list, 1)) || !slices.Equal(again, past.Of(list, a)) || again[0] != was[1] {
		t.Errorf("%v, %v, %v", room, w, again)
	}
	clear(room)
	if again[0] != was[1] || w.Done[0] != c || w.Losers[0].Txn != a || w.Pages[0] != (api.First{Page: 3, N: 2}) {
		t.Errorf("%v, %v", w, again)
	}
}

// A long list takes no long time, neither of one transaction nor of many.
func TestLongLists(t *testing.T) {
	for _, names := range []int{1, 1000, 1 << 18} {
		var list []api.Entry
		for i := range 1 << 18 {
			list = append(list, change(txn(1+i%8, 1, 1+i%names), 1+i, i%1024))
		}
		v := past.Read(list, 1)
		last := list[len(list)-1]
		if len(v.Done) != 0 || len(v.Pages) != 1024 || past.Needed(list, 1) != 1 {
			t.Errorf("%d, %d, %d", len(v.Done), len(v.Pages), past.Needed(list, 1))
		}
		if !slices.Contains(v.Losers, api.Loser{Txn: last.Txn, Last: last.Lsn}) || !slices.Contains(past.Of(list, last.Txn), last) {
			t.Errorf("%v isn't told", last)
		}
	}
}
