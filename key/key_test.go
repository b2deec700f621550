package key_test

import (
	"runtime"
	"slices"
	"testing"

	"seneschal/api"
	"seneschal/key"
	"seneschal/knot"
)

func asks(t *testing.T, k *key.Table, client, page int, x bool, want api.Errno) {
	t.Helper()
	if e := k.Ask(client, page, x); e != want {
		t.Fatalf("Ask(%d, %d, %t): %d, wanted %d", client, page, x, e, want)
	}
}

func frees(t *testing.T, k *key.Table, client, page int, keep bool, want api.Errno) {
	t.Helper()
	if e := k.Free(client, page, keep); e != want {
		t.Fatalf("Free(%d, %d, %t): %d, wanted %d", client, page, keep, e, want)
	}
}

func busy(t *testing.T, k *key.Table, client, page int, want api.Errno) {
	t.Helper()
	if e := k.Busy(client, page); e != want {
		t.Fatalf("Busy(%d, %d): %d, wanted %d", client, page, e, want)
	}
}

// says: what was said since it was last asked, in order, and nothing else.
func says(t *testing.T, k *key.Table, want ...api.Word) {
	t.Helper()
	if list := k.Take(); !slices.Equal(list, want) {
		t.Fatalf("said %+v, wanted %+v", list, want)
	}
}

func holds(t *testing.T, k *key.Table, client, page, want int) {
	t.Helper()
	if has := k.Holds(client, page); has != want {
		t.Fatalf("Holds(%d, %d): %d, wanted %d", client, page, has, want)
	}
}

func full(t *testing.T, k *key.Table, client int, want ...int) {
	t.Helper()
	if list := k.Of(client); !slices.Equal(list, want) {
		t.Fatalf("Of(%d): %v, wanted %v", client, list, want)
	}
}

func waits(t *testing.T, k *key.Table, want ...knot.Edge[int]) {
	t.Helper()
	if list := k.Waits(); !slices.Equal(list, want) {
		t.Fatalf("Waits: %v, wanted %v", list, want)
	}
}

func has(client, page int, x bool) api.Word {
	return api.Word{Client: client, Page: page, X: x}
}

func call(client, page int, x bool) api.Word {
	return api.Word{Call: true, Client: client, Page: page, X: x}
}

func edge(from, to int) knot.Edge[int] {
	return knot.Edge[int]{From: from, To: to}
}

// held is a table in which these clients hold the page 7 shared, or, if there is one alone and x, as an X; nothing is to be said.
func held(t *testing.T, x bool, clients ...int) *key.Table {
	t.Helper()
	k := key.New()
	for _, client := range clients {
		asks(t, k, client, 7, x, api.OK)
	}
	k.Take()
	return k
}

// empty: nobody has anything or waits.
func empty(t *testing.T, k *key.Table) {
	t.Helper()
	for _, client := range wild {
		for _, page := range wild {
			holds(t, k, client, page, 0)
		}
		full(t, k, client)
	}
	waits(t, k)
	says(t, k)
}

// P14.1

func TestNew(t *testing.T) {
	k := key.New()
	if k == nil {
		t.Fatal("no table")
	}
	empty(t, k)
	for _, client := range wild {
		k.Cancel(client)
		k.Gone(client)
		for _, page := range wild {
			frees(t, k, client, page, true, api.ErrNone)
			frees(t, k, client, page, false, api.ErrNone)
			busy(t, k, client, page, api.ErrNone)
		}
	}
	empty(t, k)
}

func TestNil(t *testing.T) {
	var k *key.Table
	for _, client := range wild {
		for _, page := range wild {
			for _, is := range []bool{false, true} {
				asks(t, k, client, page, is, api.ErrNil)
				frees(t, k, client, page, is, api.ErrNil)
			}
			busy(t, k, client, page, api.ErrNil)
		}
		k.Cancel(client)
		k.Gone(client)
	}
	empty(t, k)
}

func TestTablesApart(t *testing.T) {
	a, b := key.New(), key.New()
	asks(t, a, 1, 7, true, api.OK)
	asks(t, b, 2, 7, true, api.OK)
	says(t, a, has(1, 7, true))
	says(t, b, has(2, 7, true))
	asks(t, a, 3, 7, true, api.OK)
	b.Gone(1)
	waits(t, b)
	says(t, b)
	holds(t, a, 1, 7, 2)
	holds(t, b, 1, 7, 0)
}

// All clients and pages at the edges are such, and no other ones.
func TestAskEdges(t *testing.T) {
	k := key.New()
	for _, client := range wild {
		for _, page := range wild {
			for _, x := range []bool{false, true} {
				if client < 1 || client > 8 || page < 0 || page > 1023 {
					asks(t, k, client, page, x, api.ErrArg)
					says(t, k)
					holds(t, k, client, page, 0)
					continue
				}
				asks(t, k, client, page, x, api.OK)
				says(t, k, has(client, page, x))
				frees(t, k, client, page, false, api.OK)
			}
		}
	}
	empty(t, k)
}

func TestEachClientOnEachPage(t *testing.T) {
	k := key.New()
	for page := range 1024 {
		for client := 1; client <= 8; client++ {
			asks(t, k, client, page, page%8+1 == client, api.OK)
		}
	}
	words := k.Take()
	if len(words) == 0 {
		t.Fatal("nothing is said")
	}
	for page := range 1024 {
		x := page%8 + 1
		for client := 1; client <= 8; client++ {
			want := 1
			switch {
			case client == x && x == 1:
				want = 2
			case x == 1 || client >= x:
				want = 0
			}
			holds(t, k, client, page, want)
		}
	}
}

func TestAskShared(t *testing.T) {
	k := key.New()
	for client := 1; client <= 8; client++ {
		asks(t, k, client, 7, false, api.OK)
		says(t, k, has(client, 7, false))
	}
	for client := 1; client <= 8; client++ {
		holds(t, k, client, 7, 1)
		full(t, k, client)
	}
	waits(t, k)
}

func TestAskForAnX(t *testing.T) {
	k := key.New()
	asks(t, k, 1, 7, true, api.OK)
	says(t, k, has(1, 7, true))
	holds(t, k, 1, 7, 2)
	holds(t, k, 1, 8, 0)
	holds(t, k, 2, 7, 0)
	asks(t, k, 2, 8, true, api.OK)
	says(t, k, has(2, 8, true))
}

func TestAskOnceMore(t *testing.T) {
	for _, c := range []struct{ had, x, is bool }{{false, false, false}, {true, false, true}, {true, true, true}} {
		k := held(t, c.had, 1)
		for range 3 {
			asks(t, k, 1, 7, c.x, api.OK)
			says(t, k, has(1, 7, c.is))
		}
		waits(t, k)
	}
}

// Who holds a page is told so though others wait: nothing is got by that.
func TestAskOnceMoreAmongWaiting(t *testing.T) {
	k := held(t, true, 1)
	asks(t, k, 2, 7, false, api.OK)
	says(t, k, call(1, 7, false))
	busy(t, k, 1, 7, api.OK)
	for _, x := range []bool{true, false} {
		asks(t, k, 1, 7, x, api.OK)
		says(t, k, has(1, 7, true))
		waits(t, k, edge(2, 1))
	}
	asks(t, k, 3, 7, true, api.OK)
	says(t, k)
	k.Cancel(2)
	says(t, k, call(1, 7, true))
	asks(t, k, 1, 7, true, api.OK)
	says(t, k, has(1, 7, true))
	asks(t, k, 4, 7, false, api.OK)
	says(t, k)
	waits(t, k, edge(3, 1), edge(4, 1), edge(4, 3))
}

// One that holds a page shared and asks for an X waits for the others, not for itself.
func TestAskForMore(t *testing.T) {
	k := held(t, false, 1)
	asks(t, k, 1, 7, true, api.OK)
	says(t, k, has(1, 7, true))
	k = held(t, false, 1, 2, 3)
	asks(t, k, 2, 7, true, api.OK)
	says(t, k, call(1, 7, true), call(3, 7, true))
	holds(t, k, 2, 7, 1)
	asks(t, k, 2, 7, false, api.ErrBusy)
	asks(t, k, 2, 7, true, api.ErrBusy)
	frees(t, k, 3, 7, false, api.OK)
	says(t, k)
	frees(t, k, 1, 7, false, api.OK)
	says(t, k, has(2, 7, true))
	holds(t, k, 2, 7, 2)
}

func TestAskWhileItWaits(t *testing.T) {
	k := held(t, true, 1)
	asks(t, k, 2, 7, true, api.OK)
	k.Take()
	for _, x := range []bool{false, true} {
		asks(t, k, 2, 7, x, api.ErrBusy)
		asks(t, k, 9, 7, x, api.ErrArg)
	}
	says(t, k)
	asks(t, k, 2, 8, true, api.OK)
	says(t, k, has(2, 8, true))
	frees(t, k, 1, 7, false, api.OK)
	says(t, k, has(2, 7, true))
	asks(t, k, 2, 7, true, api.OK)
	says(t, k, has(2, 7, true))
}

// Nobody comes ahead of one that waits, though nobody is in his way.
func TestInOrder(t *testing.T) {
	k := held(t, false, 1)
	asks(t, k, 2, 7, true, api.OK)
	asks(t, k, 3, 7, false, api.OK)
	asks(t, k, 4, 7, false, api.OK)
	asks(t, k, 5, 7, true, api.OK)
	asks(t, k, 6, 7, false, api.OK)
	says(t, k, call(1, 7, true))
	frees(t, k, 1, 7, false, api.OK)
	says(t, k, has(2, 7, true), call(2, 7, false))
	frees(t, k, 2, 7, false, api.OK)
	says(t, k, has(3, 7, false), has(4, 7, false), call(3, 7, true), call(4, 7, true))
	frees(t, k, 4, 7, false, api.OK)
	frees(t, k, 3, 7, false, api.OK)
	says(t, k, has(5, 7, true), call(5, 7, false))
	frees(t, k, 5, 7, true, api.OK)
	says(t, k, has(6, 7, false))
	holds(t, k, 5, 7, 1)
}

// Who is called is called by rising numbers, whatever the order in which they came.
func TestCallsRise(t *testing.T) {
	for range 20 {
		k := held(t, false, 5, 8, 2, 7, 1)
		asks(t, k, 6, 7, true, api.OK)
		says(t, k, call(1, 7, true), call(2, 7, true), call(5, 7, true), call(7, 7, true), call(8, 7, true))
	}
}

// Who was called is called once more if more is wanted of it, and only then.
func TestCallsOnce(t *testing.T) {
	k := held(t, true, 1)
	asks(t, k, 2, 7, false, api.OK)
	says(t, k, call(1, 7, false))
	k.Cancel(2)
	asks(t, k, 3, 7, false, api.OK)
	says(t, k)
	k.Cancel(3)
	asks(t, k, 4, 7, true, api.OK)
	says(t, k, call(1, 7, true))
	k.Cancel(4)
	asks(t, k, 5, 7, true, api.OK)
	k.Cancel(5)
	asks(t, k, 6, 7, false, api.OK)
	says(t, k)
}

// P14.2

func TestFreeWrong(t *testing.T) {
	k := held(t, true, 1)
	asks(t, k, 2, 7, true, api.OK)
	k.Take()
	for _, client := range wild {
		for _, page := range wild {
			if client == 1 && page == 7 {
				continue
			}
			frees(t, k, client, page, true, api.ErrNone)
			frees(t, k, client, page, false, api.ErrNone)
			busy(t, k, client, page, api.ErrNone)
		}
	}
	frees(t, k, 2, 7, true, api.ErrNone)
	busy(t, k, 2, 7, api.ErrNone)
	says(t, k)
	holds(t, k, 1, 7, 2)
	waits(t, k)
	frees(t, k, 1, 7, false, api.OK)
	says(t, k, has(2, 7, true))
	frees(t, k, 1, 7, false, api.ErrNone)
	frees(t, k, 1, 7, true, api.ErrNone)
	busy(t, k, 1, 7, api.ErrNone)
}

// The pages 255 and 511, or the clients 1 and 257, are others.
func TestFreeOfOthers(t *testing.T) {
	k := key.New()
	asks(t, k, 1, 255, true, api.OK)
	frees(t, k, 1, 511, false, api.ErrNone)
	frees(t, k, 257, 255, false, api.ErrNone)
	holds(t, k, 1, 255, 2)
}

func TestFree(t *testing.T) {
	for _, x := range []bool{false, true} {
		k := held(t, x, 1)
		frees(t, k, 1, 7, false, api.OK)
		empty(t, k)
		k = held(t, x, 1)
		for range 2 {
			frees(t, k, 1, 7, true, api.OK)
			holds(t, k, 1, 7, 1)
			full(t, k, 1)
			says(t, k)
		}
		frees(t, k, 1, 7, false, api.OK)
		holds(t, k, 1, 7, 0)
		says(t, k)
	}
}

func TestFreeKeepsForShared(t *testing.T) {
	k := held(t, true, 1)
	asks(t, k, 2, 7, false, api.OK)
	asks(t, k, 3, 7, false, api.OK)
	asks(t, k, 4, 7, true, api.OK)
	says(t, k, call(1, 7, false))
	frees(t, k, 1, 7, true, api.OK)
	says(t, k, has(2, 7, false), has(3, 7, false), call(1, 7, true), call(2, 7, true), call(3, 7, true))
	holds(t, k, 1, 7, 1)
}

// Who keeps a page shared that is wanted as an X is called anew, each time.
func TestFreeIsCalledAnew(t *testing.T) {
	k := held(t, true, 1)
	asks(t, k, 2, 7, true, api.OK)
	says(t, k, call(1, 7, true))
	for range 3 {
		frees(t, k, 1, 7, true, api.OK)
		says(t, k, call(1, 7, true))
	}
	k.Cancel(2)
	frees(t, k, 1, 7, true, api.OK)
	says(t, k)
	asks(t, k, 3, 7, true, api.OK)
	says(t, k, call(1, 7, true))
}

// Who got a page anew is called anew.
func TestGotIsCalledAnew(t *testing.T) {
	k := held(t, false, 1, 2)
	asks(t, k, 3, 7, true, api.OK)
	says(t, k, call(1, 7, true), call(2, 7, true))
	k.Cancel(3)
	asks(t, k, 1, 7, true, api.OK)
	says(t, k)
	asks(t, k, 4, 7, false, api.OK)
	frees(t, k, 2, 7, false, api.OK)
	says(t, k, has(1, 7, true), call(1, 7, false))
	frees(t, k, 1, 7, false, api.OK)
	says(t, k, has(4, 7, false))
	asks(t, k, 1, 7, false, api.OK)
	says(t, k, has(1, 7, false))
	asks(t, k, 5, 7, true, api.OK)
	says(t, k, call(1, 7, true), call(4, 7, true))
}

func TestBusyTill(t *testing.T) {
	for _, end := range []struct {
		name string
		do   func(k *key.Table)
		want []knot.Edge[int]
	}{
		{"nothing", func(k *key.Table) {}, []knot.Edge[int]{edge(2, 1)}},
		{"said twice", func(k *key.Table) { k.Busy(1, 7) }, []knot.Edge[int]{edge(2, 1)}},
		{"asked once more", func(k *key.Table) { k.Ask(1, 7, false) }, []knot.Edge[int]{edge(2, 1)}},
		{"waits", func(k *key.Table) { k.Ask(1, 7, true) }, []knot.Edge[int]{edge(1, 2), edge(2, 1)}},
		{"kept", func(k *key.Table) { k.Free(1, 7, true) }, nil},
		{"freed", func(k *key.Table) { k.Free(1, 7, false) }, nil},
		{"gone", func(k *key.Table) { k.Gone(1) }, nil},
		{"another one gone", func(k *key.Table) { k.Gone(3) }, []knot.Edge[int]{edge(2, 1)}},
	} {
		k := held(t, false, 1, 3)
		busy(t, k, 1, 7, api.OK)
		asks(t, k, 2, 7, true, api.OK)
		t.Log(end.name)
		end.do(k)
		waits(t, k, end.want...)
	}
}

// Who got as an X what it held shared isn't busy there any more.
func TestBusyTillAnX(t *testing.T) {
	k := held(t, false, 1, 2)
	busy(t, k, 1, 7, api.OK)
	asks(t, k, 1, 7, true, api.OK)
	asks(t, k, 3, 7, true, api.OK)
	waits(t, k, edge(3, 1))
	frees(t, k, 2, 7, false, api.OK)
	waits(t, k)
	busy(t, k, 1, 7, api.OK)
	waits(t, k, edge(3, 1))
	// Nor is who lost it and got it again.
	frees(t, k, 1, 7, false, api.OK)
	asks(t, k, 1, 7, false, api.OK)
	frees(t, k, 3, 7, false, api.OK)
	asks(t, k, 4, 7, true, api.OK)
	waits(t, k)
}

// P14.3

func TestCancel(t *testing.T) {
	k := key.New()
	for _, page := range []int{900, 3, 40, 500} {
		asks(t, k, 1, page, page != 40, api.OK)
	}
	for _, page := range []int{500, 3, 900, 40} {
		asks(t, k, 2, page, true, api.OK)
		asks(t, k, 3, page, page == 3, api.OK)
	}
	k.Take()
	for range 2 {
		k.Cancel(2)
		// The others wait still, but for the shared one; nobody is called but where more is wanted.
		waits(t, k)
		for _, page := range []int{3, 500, 900} {
			holds(t, k, 3, page, 0)
			holds(t, k, 1, page, 2)
		}
	}
	says(t, k, has(3, 40, false))
	for _, page := range []int{900, 500, 3} {
		asks(t, k, 2, page, true, api.OK)
		frees(t, k, 1, page, false, api.OK)
	}
	says(t, k, has(3, 900, false), call(3, 900, true), has(3, 500, false), call(3, 500, true), has(3, 3, true), call(3, 3, true))
	k.Cancel(1)
	holds(t, k, 1, 40, 1)
}

// Cancel takes requests alone, at any place of a queue.
func TestCancelKeepsLocks(t *testing.T) {
	k := held(t, false, 1, 2)
	for _, client := range []int{3, 4, 1} {
		asks(t, k, client, 7, true, api.OK)
	}
	k.Take()
	k.Cancel(1)
	holds(t, k, 1, 7, 1)
	waits(t, k, edge(4, 3))
	k.Cancel(3)
	waits(t, k)
	says(t, k)
	frees(t, k, 1, 7, false, api.OK)
	frees(t, k, 2, 7, false, api.OK)
	says(t, k, has(4, 7, true))
}

func TestGone(t *testing.T) {
	k := key.New()
	for _, page := range []int{1023, 0, 5} {
		asks(t, k, 1, page, true, api.OK)
		asks(t, k, 2, page, false, api.OK)
	}
	asks(t, k, 3, 9, false, api.OK)
	asks(t, k, 1, 9, true, api.OK)
	asks(t, k, 4, 9, false, api.OK)
	asks(t, k, 1, 700, false, api.OK)
	asks(t, k, 2, 700, true, api.OK)
	k.Take()
	k.Gone(1)
	says(t, k, has(2, 0, false), has(2, 5, false), has(4, 9, false), has(2, 700, true), has(2, 1023, false))
	for _, page := range []int{0, 5, 9, 700, 1023} {
		holds(t, k, 1, page, 0)
	}
	full(t, k, 1)
	waits(t, k)
	k.Gone(1)
	says(t, k)
	asks(t, k, 1, 9, false, api.OK)
	says(t, k, has(1, 9, false))
}

// Who is gone while it waits for more than it has leaves neither.
func TestGoneWithBoth(t *testing.T) {
	k := held(t, false, 1, 2)
	asks(t, k, 1, 7, true, api.OK)
	asks(t, k, 3, 7, true, api.OK)
	says(t, k, call(2, 7, true))
	k.Gone(1)
	says(t, k)
	frees(t, k, 2, 7, false, api.OK)
	says(t, k, has(3, 7, true))
	holds(t, k, 1, 7, 0)
}

// One that was called, is gone, and comes again wasn't called.
func TestGoneIsForgotten(t *testing.T) {
	k := held(t, true, 1)
	busy(t, k, 1, 7, api.OK)
	asks(t, k, 2, 7, true, api.OK)
	k.Gone(1)
	frees(t, k, 2, 7, false, api.OK)
	asks(t, k, 1, 7, true, api.OK)
	k.Take()
	asks(t, k, 2, 7, true, api.OK)
	says(t, k, call(1, 7, true))
	waits(t, k)
}

// P14.4

func TestTake(t *testing.T) {
	k := key.New()
	asks(t, k, 2, 8, false, api.OK)
	asks(t, k, 1, 7, true, api.OK)
	asks(t, k, 3, 8, true, api.OK)
	asks(t, k, 3, 1024, true, api.ErrArg)
	asks(t, k, 3, 8, true, api.ErrBusy)
	busy(t, k, 1, 7, api.OK)
	asks(t, k, 1, 7, false, api.OK)
	says(t, k, has(2, 8, false), has(1, 7, true), call(2, 8, true), has(1, 7, true))
	says(t, k)
}

func TestOf(t *testing.T) {
	k := key.New()
	for _, page := range []int{1023, 2, 512, 0, 77} {
		asks(t, k, 1, page, true, api.OK)
		asks(t, k, 2, page+1-page%2*2, true, api.OK)
	}
	asks(t, k, 1, 300, false, api.OK)
	full(t, k, 1, 0, 2, 77, 512, 1023)
	frees(t, k, 1, 77, true, api.OK)
	frees(t, k, 1, 2, false, api.OK)
	full(t, k, 1, 0, 512, 1023)
	full(t, k, 3)
}

// A request waits for each one ahead of it, and for those in its way that are busy: by whom, then for whom, each once.
func TestWaits(t *testing.T) {
	k := key.New()
	for _, page := range []int{5, 6} {
		asks(t, k, 8, page, false, api.OK)
		asks(t, k, 1, page, false, api.OK)
		for _, client := range []int{7, 2, 4} {
			asks(t, k, client, page, true, api.OK)
		}
		asks(t, k, 3, page, false, api.OK)
	}
	ahead := []knot.Edge[int]{edge(2, 7), edge(3, 2), edge(3, 4), edge(3, 7), edge(4, 2), edge(4, 7)}
	waits(t, k, ahead...)
	// The shared one has nobody in its way but those ahead.
	busy(t, k, 8, 5, api.OK)
	busy(t, k, 1, 6, api.OK)
	waits(t, k, edge(2, 1), edge(2, 7), edge(2, 8), edge(3, 2), edge(3, 4), edge(3, 7), edge(4, 1), edge(4, 2), edge(4, 7), edge(4, 8), edge(7, 1), edge(7, 8))
	k.Gone(8)
	k.Gone(1)
	// Now 7 has both pages, and isn't busy there.
	waits(t, k, edge(3, 2), edge(3, 4), edge(4, 2))
	busy(t, k, 7, 6, api.OK)
	waits(t, k, edge(2, 7), edge(3, 2), edge(3, 4), edge(3, 7), edge(4, 2), edge(4, 7))
}

// Who wants more of what it holds waits not for itself, though it is busy there.
func TestWaitsNotForItself(t *testing.T) {
	k := held(t, false, 1, 2)
	busy(t, k, 1, 7, api.OK)
	busy(t, k, 2, 7, api.OK)
	asks(t, k, 1, 7, true, api.OK)
	waits(t, k, edge(1, 2))
	asks(t, k, 2, 7, true, api.OK)
	waits(t, k, edge(1, 2), edge(2, 1))
	if k, ok := knot.Victim(k.Waits()); k != 2 || !ok {
		t.Error(k, ok)
	}
}

// P14.5

// Each table is told apart from what it answered.
func TestAnswersAreNew(t *testing.T) {
	k := held(t, true, 1)
	asks(t, k, 1, 9, true, api.OK)
	busy(t, k, 1, 7, api.OK)
	asks(t, k, 2, 7, true, api.OK)
	asks(t, k, 3, 7, true, api.OK)
	words := k.Take()
	kept := slices.Clone(words)
	asks(t, k, 4, 8, true, api.OK)
	if !slices.Equal(words, kept) {
		t.Error(words)
	}
	for i := range words[:cap(words)] {
		words[:cap(words)][i] = call(5, 5, true)
	}
	says(t, k, has(4, 8, true))
	for i := range k.Of(1) {
		k.Of(1)[i] = 3
	}
	full(t, k, 1, 7, 9)
	want := []knot.Edge[int]{edge(2, 1), edge(3, 1), edge(3, 2)}
	list := k.Waits()
	clear(list)
	waits(t, k, want...)
	frees(t, k, 1, 7, false, api.OK)
	says(t, k, has(2, 7, true), call(2, 7, true))
}

// What isn't had or waited for any more, and what was said and taken, takes no room.
func TestKeepsNoMore(t *testing.T) {
	k := key.New()
	round := func(n int) {
		for i := range n {
			page, x := i%1024, i%3 == 0
			k.Ask(1, page, x)
			k.Ask(2, page, true)
			k.Busy(1, page)
			k.Cancel(2)
			k.Ask(3, page, !x)
			k.Free(1, page, x)
			k.Gone(1)
			k.Gone(3)
			k.Take()
		}
	}
	round(1)
	before := heap()
	round(200000)
	if more := heap() - before; more > 1<<16 {
		t.Errorf("%d bytes more", more)
	}
	empty(t, k)
	runtime.KeepAlive(k)
}

func heap() int {
	var m runtime.MemStats
	runtime.GC()
	runtime.ReadMemStats(&m)
	return int(m.HeapAlloc)
}

// The chapter's example.
func TestExample(t *testing.T) {
	k := key.New()
	asks(t, k, 1, 7, true, api.OK)
	says(t, k, has(1, 7, true))
	asks(t, k, 2, 7, false, api.OK)
	says(t, k, call(1, 7, false))
	frees(t, k, 1, 7, true, api.OK)
	says(t, k, has(2, 7, false))
	holds(t, k, 1, 7, 1)
	holds(t, k, 2, 7, 1)
}

// The server's example of layer 21, as the table tells it: the one with the greater number gives up.
func TestTwoThatWaitForEachOther(t *testing.T) {
	k := key.New()
	asks(t, k, 1, 0, true, api.OK)
	asks(t, k, 2, 1, true, api.OK)
	k.Take()
	asks(t, k, 2, 0, true, api.OK)
	busy(t, k, 1, 0, api.OK)
	asks(t, k, 1, 1, true, api.OK)
	says(t, k, call(1, 0, true), call(2, 1, true))
	if _, ok := knot.Victim(k.Waits()); ok {
		t.Error("nobody waits for ever as long as 2 isn't busy")
	}
	busy(t, k, 2, 1, api.OK)
	waits(t, k, edge(1, 2), edge(2, 1))
	v, ok := knot.Victim(k.Waits())
	if v != 2 || !ok {
		t.Error(v, ok)
	}
	k.Cancel(2)
	waits(t, k, edge(1, 2))
	k.Gone(2)
	says(t, k, has(1, 1, true))
}
