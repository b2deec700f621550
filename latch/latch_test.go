package latch_test

import (
	"math"
	"slices"
	"testing"

	"seneschal/api"
	"seneschal/latch"
)

func has(t *testing.T, l *latch.Locks, page, want int) {
	t.Helper()
	if l.Has(page, false) != (want > 0) || l.Has(page, true) != (want > 1) {
		t.Fatalf("Has(%d): %t, as an X %t, wanted %d", page, l.Has(page, false), l.Has(page, true), want)
	}
}

func uses(t *testing.T, l *latch.Locks, page int, x bool, want api.Errno) {
	t.Helper()
	if e := l.Use(page, x); e != want {
		t.Fatalf("Use(%d, %t): %d, wanted %d", page, x, e, want)
	}
}

func used(t *testing.T, l *latch.Locks, page, want int) {
	t.Helper()
	if n := l.Used(page); n != want {
		t.Fatalf("Used(%d): %d, wanted %d", page, n, want)
	}
}

func calls(t *testing.T, l *latch.Locks, page int, all bool, want int) {
	t.Helper()
	if a := l.Call(page, all); a != want {
		t.Fatalf("Call(%d, %t): %d, wanted %d", page, all, a, want)
	}
}

func ends(t *testing.T, l *latch.Locks, want ...api.Let) {
	t.Helper()
	if list := l.End(); !slices.Equal(list, want) {
		t.Fatalf("End: %+v, wanted %+v", list, want)
	}
}

func pages(t *testing.T, l *latch.Locks, want ...int) {
	t.Helper()
	if list := l.Pages(); !slices.Equal(list, want) {
		t.Fatalf("Pages: %v, wanted %v", list, want)
	}
}

// empty: no lock is had or needed, and no call waits.
func empty(t *testing.T, l *latch.Locks) {
	t.Helper()
	for _, page := range wild {
		has(t, l, page, 0)
		used(t, l, page, 0)
		calls(t, l, page, false, latch.Nothing)
		calls(t, l, page, true, latch.Nothing)
	}
	pages(t, l)
	ends(t, l)
}

// needed has the lock of the page 7 as an X, which its transaction needs, as an X if x.
func needed(t *testing.T, x bool) *latch.Locks {
	t.Helper()
	l := latch.New()
	l.Grant(7, true)
	uses(t, l, 7, x, api.OK)
	return l
}

// P16.1

func TestConstants(t *testing.T) {
	if latch.Nothing != 0 || latch.LetGo != 1 || latch.Shares != 2 || latch.Later != 3 {
		t.Error(latch.Nothing, latch.LetGo, latch.Shares, latch.Later)
	}
}

func TestNew(t *testing.T) {
	l := latch.New()
	if l == nil {
		t.Fatal("no locks")
	}
	empty(t, l)
	for _, page := range wild {
		uses(t, l, page, false, api.ErrNone)
		uses(t, l, page, true, api.ErrNone)
	}
	empty(t, l)
	l.Clear()
	empty(t, l)
}

func TestNil(t *testing.T) {
	var l *latch.Locks
	for _, page := range wild {
		for _, x := range []bool{false, true} {
			l.Grant(page, x)
			uses(t, l, page, x, api.ErrNil)
		}
	}
	empty(t, l)
	l.Clear()
	empty(t, l)
}

func TestLocksApart(t *testing.T) {
	a, b := needed(t, true), latch.New()
	empty(t, b)
	b.Grant(7, false)
	b.Grant(8, true)
	has(t, a, 7, 2)
	has(t, a, 8, 0)
	calls(t, a, 7, false, latch.Later)
	b.Clear()
	ends(t, b)
	pages(t, a, 7)
	ends(t, a, api.Let{Page: 7, Keep: true})
}

// Any number is a page, and each of them one of its own.
func TestAllPages(t *testing.T) {
	for i, page := range wild {
		l := latch.New()
		l.Grant(page, i%2 == 1)
		for _, other := range wild {
			if other != page {
				has(t, l, other, 0)
				uses(t, l, other, false, api.ErrNone)
				calls(t, l, other, true, latch.Nothing)
			}
		}
		has(t, l, page, 1+i%2)
		uses(t, l, page, i%2 == 1, api.OK)
		used(t, l, page, 1+i%2)
		calls(t, l, page, true, latch.Later)
		pages(t, l, page)
		ends(t, l, api.Let{Page: page})
		empty(t, l)
	}
}

func TestGrant(t *testing.T) {
	l := latch.New()
	for _, x := range []bool{false, false, true, true, false, true} {
		l.Grant(7, x)
		want := 1
		if x {
			want = 2
		}
		has(t, l, 7, want)
		used(t, l, 7, 0)
		pages(t, l, 7)
	}
	ends(t, l)
	has(t, l, 7, 2)
}

// What is needed, and a call that waits, stay, whatever is granted.
func TestGrantLetsTheRestStay(t *testing.T) {
	for _, first := range []bool{false, true} {
		for _, c := range []struct {
			all  bool
			want api.Let
		}{{true, api.Let{Page: 7}}, {false, api.Let{Page: 7, Keep: true}}} {
			l := needed(t, true)
			calls(t, l, 7, c.all, latch.Later)
			l.Grant(7, first)
			used(t, l, 7, 2)
			l.Grant(7, !first)
			used(t, l, 7, 2)
			ends(t, l, c.want)
		}
	}
}

func TestUse(t *testing.T) {
	l := latch.New()
	l.Grant(1, false)
	l.Grant(2, true)
	uses(t, l, 1, true, api.ErrNone)
	used(t, l, 1, 0)
	uses(t, l, 1, false, api.OK)
	used(t, l, 1, 1)
	uses(t, l, 1, true, api.ErrNone)
	used(t, l, 1, 1)
	for _, c := range []struct {
		x    bool
		want int
	}{{false, 1}, {false, 1}, {true, 2}, {false, 2}, {true, 2}} {
		uses(t, l, 2, c.x, api.OK)
		used(t, l, 2, c.want)
	}
	uses(t, l, 3, false, api.ErrNone)
	used(t, l, 3, 0)
	has(t, l, 1, 1)
	has(t, l, 2, 2)
	pages(t, l, 1, 2)
}

// What was needed as an X is so behind a Use as a shared one, even if the X isn't had any more.
func TestUseOfWhatIsSharedNow(t *testing.T) {
	l := needed(t, true)
	l.Grant(7, false)
	uses(t, l, 7, true, api.ErrNone)
	used(t, l, 7, 2)
	uses(t, l, 7, false, api.OK)
	used(t, l, 7, 2)
	calls(t, l, 7, false, latch.Nothing)
	calls(t, l, 7, true, latch.Later)
	ends(t, l, api.Let{Page: 7})
}

func TestPagesRise(t *testing.T) {
	l := latch.New()
	mixed := slices.Concat(wild[5:], wild[:5], wild[3:8])
	for i, page := range mixed {
		l.Grant(page, i%3 == 0)
	}
	pages(t, l, wild...)
	calls(t, l, wild[2], true, latch.LetGo)
	calls(t, l, wild[9], true, latch.LetGo)
	pages(t, l, slices.Concat(wild[:2], wild[3:9], wild[10:])...)
}

func TestClear(t *testing.T) {
	l := latch.New()
	for _, page := range wild {
		l.Grant(page, true)
		uses(t, l, page, page%2 == 0, api.OK)
		l.Call(page, page%3 == 0)
	}
	l.Clear()
	empty(t, l)
	for _, page := range wild {
		uses(t, l, page, false, api.ErrNone)
		l.Grant(page, true)
		used(t, l, page, 0)
		uses(t, l, page, false, api.OK)
		used(t, l, page, 1)
	}
	ends(t, l)
	pages(t, l, wild...)
}

// P16.2

func TestCallOfAll(t *testing.T) {
	l := latch.New()
	calls(t, l, 7, true, latch.Nothing)
	for _, x := range []bool{false, true} {
		l.Grant(7, x)
		calls(t, l, 7, true, latch.LetGo)
		has(t, l, 7, 0)
		pages(t, l)
		calls(t, l, 7, true, latch.Nothing)
		uses(t, l, 7, false, api.ErrNone)
		for _, needs := range []bool{false, x} {
			l.Grant(7, x)
			uses(t, l, 7, needs, api.OK)
			calls(t, l, 7, true, latch.Later)
			calls(t, l, 7, true, latch.Later)
			l.Grant(7, x)
			pages(t, l, 7)
			ends(t, l, api.Let{Page: 7})
			pages(t, l)
		}
	}
	ends(t, l)
}

func TestCallOfTheX(t *testing.T) {
	l := latch.New()
	calls(t, l, 7, false, latch.Nothing)
	l.Grant(7, false)
	calls(t, l, 7, false, latch.Nothing)
	has(t, l, 7, 1)
	uses(t, l, 7, false, api.OK)
	calls(t, l, 7, false, latch.Nothing)
	for range 2 { // the transaction doesn't need it, or needs it shared
		l.Grant(7, true)
		calls(t, l, 7, false, latch.Shares)
		has(t, l, 7, 1)
		calls(t, l, 7, false, latch.Nothing)
		ends(t, l)
	}
	l = needed(t, true)
	calls(t, l, 7, false, latch.Later)
	calls(t, l, 7, false, latch.Later)
	has(t, l, 7, 2)
	used(t, l, 7, 2)
	ends(t, l, api.Let{Page: 7, Keep: true})
	has(t, l, 7, 1)
}

// A call of all that waits stays so behind one of the X, and takes the place of one of the X.
func TestCallsThatWait(t *testing.T) {
	for _, c := range []struct {
		alls []bool
		want api.Let
	}{
		{[]bool{false, false}, api.Let{Page: 7, Keep: true}},
		{[]bool{false, true}, api.Let{Page: 7}},
		{[]bool{true, false}, api.Let{Page: 7}},
		{[]bool{true, true}, api.Let{Page: 7}},
		{[]bool{false, true, false, false}, api.Let{Page: 7}},
	} {
		l := needed(t, true)
		for _, all := range c.alls {
			calls(t, l, 7, all, latch.Later)
			has(t, l, 7, 2)
		}
		ends(t, l, c.want)
	}
	l := needed(t, false)
	calls(t, l, 7, true, latch.Later)
	calls(t, l, 7, false, latch.Shares)
	has(t, l, 7, 1)
	ends(t, l, api.Let{Page: 7})
}

// What is called isn't another page's.
func TestCallOfOnePage(t *testing.T) {
	l := latch.New()
	for page := range 6 {
		l.Grant(page, true)
	}
	uses(t, l, 2, true, api.OK)
	uses(t, l, 3, false, api.OK)
	calls(t, l, 0, true, latch.LetGo)
	calls(t, l, 1, false, latch.Shares)
	calls(t, l, 2, false, latch.Later)
	calls(t, l, 3, false, latch.Shares)
	for page, want := range []int{0, 1, 2, 1, 2, 2} {
		has(t, l, page, want)
	}
	for page, want := range []int{0, 0, 2, 1, 0, 0} {
		used(t, l, page, want)
	}
	ends(t, l, api.Let{Page: 2, Keep: true})
	for page, want := range []int{0, 1, 1, 1, 2, 2} {
		has(t, l, page, want)
	}
}

// P16.3

func TestEnd(t *testing.T) {
	l := latch.New()
	for _, page := range []int{9, -4, 3, 1 << 40, 0, 5, 8} {
		l.Grant(page, true)
		uses(t, l, page, page != 5, api.OK)
	}
	l.Grant(6, true)
	for _, c := range []struct {
		page int
		all  bool
	}{{3, true}, {1 << 40, false}, {5, true}, {-4, false}, {0, true}, {0, false}} {
		calls(t, l, c.page, c.all, latch.Later)
	}
	ends(t, l, api.Let{Page: -4, Keep: true}, api.Let{Page: 0}, api.Let{Page: 3}, api.Let{Page: 5}, api.Let{Page: 1 << 40, Keep: true})
	pages(t, l, -4, 6, 8, 9, 1<<40)
	for page, want := range map[int]int{-4: 1, 0: 0, 3: 0, 5: 0, 6: 2, 8: 2, 9: 2, 1 << 40: 1} {
		has(t, l, page, want)
		used(t, l, page, 0)
	}
	ends(t, l)
	pages(t, l, -4, 6, 8, 9, 1<<40)
}

// Behind an End the next transaction begins with nothing that it needs, and no call.
func TestNextTransaction(t *testing.T) {
	l := needed(t, true)
	ends(t, l)
	has(t, l, 7, 2)
	used(t, l, 7, 0)
	calls(t, l, 7, false, latch.Shares)
	calls(t, l, 7, true, latch.LetGo)
	l = needed(t, true)
	calls(t, l, 7, false, latch.Later)
	ends(t, l, api.Let{Page: 7, Keep: true})
	l.Grant(7, true)
	uses(t, l, 7, false, api.OK)
	used(t, l, 7, 1)
	ends(t, l)
	has(t, l, 7, 2)
	uses(t, l, 7, true, api.OK)
	calls(t, l, 7, true, latch.Later)
	ends(t, l, api.Let{Page: 7})
	l.Grant(7, true)
	used(t, l, 7, 0)
	uses(t, l, 7, true, api.OK)
	ends(t, l)
	has(t, l, 7, 2)
}

// An X that was granted shared meanwhile is let go like one that wasn't.
func TestEndOfWhatIsSharedNow(t *testing.T) {
	l := needed(t, true)
	calls(t, l, 7, false, latch.Later)
	l.Grant(7, false)
	calls(t, l, 7, false, latch.Nothing)
	ends(t, l, api.Let{Page: 7, Keep: true})
	has(t, l, 7, 1)
}

// P16.4

func TestNeededStays(t *testing.T) {
	for _, x := range []bool{false, true} {
		l := needed(t, x)
		want := 1
		if x {
			want = 2
		}
		for i := range 12 {
			l.Call(7, i%3 == 0)
			l.Call(8, i%2 == 0)
			if !l.Has(7, x) {
				t.Fatal("what is needed is had no more")
			}
			used(t, l, 7, want)
			pages(t, l, 7)
		}
	}
}

func TestNewMemory(t *testing.T) {
	l := latch.New()
	for page := range 8 {
		l.Grant(page, true)
		uses(t, l, page, true, api.OK)
	}
	list, other := l.Pages(), l.Pages()
	for i := range list {
		list[i] = 99
	}
	if _ = append(list, 1, 2, 3); !slices.Equal(other, []int{0, 1, 2, 3, 4, 5, 6, 7}) {
		t.Error(other)
	}
	pages(t, l, 0, 1, 2, 3, 4, 5, 6, 7)
	calls(t, l, 2, true, latch.Later)
	calls(t, l, 5, false, latch.Later)
	lets := l.End()
	uses(t, l, 1, true, api.OK)
	calls(t, l, 1, true, latch.Later)
	ends(t, l, api.Let{Page: 1})
	if !slices.Equal(lets, []api.Let{{Page: 2}, {Page: 5, Keep: true}}) {
		t.Error(lets)
	}
	lets[0] = api.Let{Page: 4, Keep: true}
	pages(t, l, 0, 3, 4, 5, 6, 7)
	has(t, l, 4, 2)
}

// A transaction of one page costs no more behind one of many pages: else this takes minutes.
func TestManyPages(t *testing.T) {
	const many = 1 << 16
	l := latch.New()
	for page := many; page > 0; page-- {
		l.Grant(page, true)
		uses(t, l, page, page%2 == 0, api.OK)
		calls(t, l, page, true, latch.Later)
	}
	list := l.End()
	if len(list) != many {
		t.Fatal(len(list))
	}
	for i, x := range list {
		if x != (api.Let{Page: i + 1}) {
			t.Fatal(i, x)
		}
	}
	for range 1 << 16 {
		l.Grant(1, true)
		uses(t, l, 1, true, api.OK)
		ends(t, l)
		l.Clear()
	}
	empty(t, l)
}

// The chapter's example.
func TestExample(t *testing.T) {
	l := latch.New()
	l.Grant(3, true)
	uses(t, l, 3, false, api.OK)
	calls(t, l, 3, false, latch.Shares)
	calls(t, l, 3, true, latch.Later)
	ends(t, l, api.Let{Page: 3, Keep: false})
	empty(t, l)
}

var wild = []int{math.MinInt, math.MinInt + 1, -1 << 40, -1 << 32, -1024, -2, -1, 0, 1, 2, 3, 255, 256, 257, 1022, 1023, 1024, 1025, 1 << 31, 1 << 32, 1<<32 + 1, math.MaxInt - 1, math.MaxInt}
