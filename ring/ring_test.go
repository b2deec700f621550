package ring_test

import (
	"math"
	"slices"
	"strings"
	"testing"

	"seneschal/ring"
)

// letters is a ring with these letters, put one behind the other; their values are 1, 2, 3..
func letters(t *testing.T, frames int, keys string) *ring.Ring[string, int] {
	t.Helper()
	r := ring.New[string, int](frames)
	for i, k := range keys {
		if o, ok := r.Put(string(k), i+1); o != (ring.Out[string, int]{}) || !ok {
			t.Fatal("Put", string(k), o, ok)
		}
	}
	has(t, r, keys)
	return r
}

// has: the keys of what is at hand, by their frames.
func has(t *testing.T, r *ring.Ring[string, int], want string) {
	t.Helper()
	var b strings.Builder
	for k := range r.All() {
		b.WriteString(k)
	}
	if b.String() != want || r.Len() != len(want) {
		t.Errorf("%d at hand: %s, wanted %s", r.Len(), b.String(), want)
	}
}

// comes puts a letter; which one leaves for it ("": none).
func comes(t *testing.T, r *ring.Ring[string, int], k, leaves string) {
	t.Helper()
	if o, ok := r.Put(k, 9); o.Key != leaves || o.Gone != (leaves != "") || (o.Val != 0) != o.Gone || !ok {
		t.Errorf("Put %s: %+v, %t, wanted %q to leave", k, o, ok, leaves)
	}
	if r.Pins(k) != 0 {
		t.Errorf("Put %s: it is pinned", k)
	}
}

// refused puts a letter for which no frame can be had.
func refused(t *testing.T, r *ring.Ring[string, int], k string) {
	t.Helper()
	if o, ok := r.Put(k, 9); o != (ring.Out[string, int]{}) || ok {
		t.Errorf("Put %s: %+v, %t", k, o, ok)
	}
}

func yes(t *testing.T, what string, ok bool) {
	t.Helper()
	if !ok {
		t.Error(what, "wasn't done")
	}
}

func no(t *testing.T, what string, ok bool) {
	t.Helper()
	if ok {
		t.Error(what, "was done")
	}
}

// P9.1

func TestNew(t *testing.T) {
	for _, c := range []struct{ frames, want int }{
		{math.MinInt, 1}, {-64, 1}, {-1, 1}, {0, 1}, {1, 1}, {2, 2}, {3, 3}, {32, 32},
		{63, 63}, {64, 64}, {65, 64}, {128, 64}, {1 << 32, 64}, {math.MaxInt, 64},
	} {
		r := ring.New[int, string](c.frames)
		if r.Len() != 0 || len(all(r)) != 0 {
			t.Error(c.frames, "not vacant")
		}
		if v, ok := r.Get(0); v != "" || ok {
			t.Error(c.frames, v, ok)
		}
		for i := range c.want {
			if o, ok := r.Put(i, "x"); o.Gone || !ok || r.Len() != i+1 {
				t.Error(c.frames, i, o, ok)
			}
		}
		if o, ok := r.Put(c.want, "y"); o.Key != 0 || o.Val != "x" || !o.Gone || !ok || r.Len() != c.want {
			t.Error(c.frames, o, ok)
		}
	}
}

func TestNil(t *testing.T) {
	var r *ring.Ring[int, string]
	if o, ok := r.Put(0, "x"); o != (ring.Out[int, string]{}) || ok {
		t.Error("Put", o, ok)
	}
	if v, ok := r.Get(0); v != "" || ok {
		t.Error("Get", v, ok)
	}
	if v, ok := r.Del(0); v != "" || ok {
		t.Error("Del", v, ok)
	}
	no(t, "Pin", r.Pin(0))
	no(t, "Let", r.Let(0))
	if r.Pins(0) != 0 || r.Len() != 0 || len(all(r)) != 0 {
		t.Error(r.Pins(0), r.Len())
	}
}

func TestRingsApart(t *testing.T) {
	r, q := letters(t, 2, "ab"), letters(t, 2, "a")
	r.Pin("a")
	r.Put("a", 5)
	if v, _ := q.Get("a"); v != 1 || q.Pins("a") != 0 {
		t.Error(v, q.Pins("a"))
	}
	comes(t, r, "c", "b")
	comes(t, q, "b", "")
	comes(t, q, "c", "a")
}

// P9.2

func TestExample(t *testing.T) {
	r := letters(t, 2, "ab")
	o, ok := r.Put("c", 3)
	if o != (ring.Out[string, int]{Key: "a", Val: 1, Gone: true}) || !ok {
		t.Error(o, ok)
	}
	has(t, r, "cb")
	o, ok = r.Put("d", 4)
	if o != (ring.Out[string, int]{Key: "b", Val: 2, Gone: true}) || !ok {
		t.Error(o, ok)
	}
	has(t, r, "cd")
}

func TestPutAgain(t *testing.T) {
	r := letters(t, 3, "abc")
	comes(t, r, "d", "a") // b and c aren't fresh now, and the hand points to b
	r.Pin("b")
	if o, ok := r.Put("b", 7); o != (ring.Out[string, int]{}) || !ok {
		t.Error(o, ok)
	}
	has(t, r, "dbc")
	if v, ok := r.Get("b"); v != 7 || !ok || r.Pins("b") != 1 {
		t.Error(v, ok, r.Pins("b"))
	}
	o, ok := r.Put("c", 8)
	if o.Gone || !ok {
		t.Error(o, ok)
	}
	r.Let("b")
	if o, ok = r.Put("e", 9); o != (ring.Out[string, int]{Key: "b", Val: 7, Gone: true}) || !ok { // b, c, d were fresh
		t.Error(o, ok)
	}
	has(t, r, "dec")
}

// What is put again is fresh by that alone.
func TestPutAgainIsFresh(t *testing.T) {
	r := letters(t, 3, "abc")
	comes(t, r, "d", "a")
	r.Put("b", 7)
	comes(t, r, "e", "c")
}

func TestFirstVacant(t *testing.T) {
	r := letters(t, 4, "abcd")
	for _, k := range []string{"d", "b", "c"} {
		r.Del(k)
	}
	has(t, r, "a")
	comes(t, r, "e", "")
	has(t, r, "ae")
	r.Del("a")
	comes(t, r, "f", "")
	comes(t, r, "g", "")
	has(t, r, "feg")
	comes(t, r, "h", "")
	has(t, r, "fegh")
	comes(t, r, "i", "f") // the hand was at the frame 0 all the time
	has(t, r, "iegh")
}

// A vacant frame is taken ahead of all others, wherever the hand points.
func TestVacantAheadOfHand(t *testing.T) {
	r := letters(t, 3, "abc")
	comes(t, r, "d", "a") // the hand points to b, which isn't fresh
	r.Del("d")
	comes(t, r, "e", "")
	has(t, r, "ebc")
	comes(t, r, "f", "b")
	comes(t, r, "g", "c")
	has(t, r, "efg")
	r.Del("g")
	comes(t, r, "h", "")
	comes(t, r, "i", "e") // all are fresh, and the hand points to the frame 0
	has(t, r, "ifh")
}

func TestAllPinned(t *testing.T) {
	r := letters(t, 3, "abc")
	comes(t, r, "d", "a") // d is fresh, the hand points to b
	for _, k := range []string{"b", "c", "d"} {
		yes(t, "Pin", r.Pin(k))
	}
	for range 4 {
		refused(t, r, "e")
		has(t, r, "dbc")
		if v, ok := r.Get("e"); v != 0 || ok || r.Pins("e") != 0 {
			t.Error(v, ok)
		}
	}
	if o, ok := r.Put("c", 9); o.Gone || !ok { // what is at hand needs no other frame
		t.Error(o, ok)
	}
	for _, k := range []string{"b", "c", "d"} {
		yes(t, "Let", r.Let(k))
	}
	comes(t, r, "e", "b") // the hand hasn't moved
	comes(t, r, "f", "c") // all are fresh: the hand comes round to c
	has(t, r, "def")
}

// What is fresh when a Put is refused is so behind it.
func TestRefusedStaysFresh(t *testing.T) {
	r := letters(t, 3, "abc")
	comes(t, r, "d", "a")
	r.Get("b") // c isn't fresh
	for _, k := range []string{"b", "c", "d"} {
		yes(t, "Pin", r.Pin(k))
	}
	refused(t, r, "e")
	refused(t, r, "e")
	for _, k := range []string{"b", "c", "d"} {
		yes(t, "Let", r.Let(k))
	}
	comes(t, r, "e", "c")
	has(t, r, "dbe")
}

// A pinned thing stays as fresh as it is when the hand passes it.
func TestPassedPinned(t *testing.T) {
	r := letters(t, 3, "abc")
	r.Pin("a")
	comes(t, r, "d", "b") // the hand passes a twice, and points to c
	r.Let("a")
	r.Get("c")
	comes(t, r, "e", "c") // a was fresh, as all were: the hand comes round to c
	comes(t, r, "f", "a")
	has(t, r, "fde")
}

// Of a thing that isn't fresh, and is pinned, a Let makes nothing fresh.
func TestPassedPinnedNotFresh(t *testing.T) {
	r := letters(t, 3, "abc")
	comes(t, r, "d", "a") // b and c aren't fresh
	r.Pin("b")
	comes(t, r, "e", "c") // the hand points to d, which is fresh
	r.Let("b")
	comes(t, r, "f", "b")
	has(t, r, "dfe")
}

func TestOneFrame(t *testing.T) {
	r := letters(t, 1, "a")
	comes(t, r, "b", "a")
	r.Get("b")
	comes(t, r, "c", "b")
	r.Pin("c")
	refused(t, r, "d")
	r.Let("c")
	comes(t, r, "d", "c")
	has(t, r, "d")
	r.Del("d")
	has(t, r, "")
	comes(t, r, "e", "")
	comes(t, r, "e", "")
}

func TestGet(t *testing.T) {
	r := letters(t, 3, "abc")
	comes(t, r, "d", "a")
	if v, ok := r.Get("b"); v != 2 || !ok {
		t.Error(v, ok)
	}
	if v, ok := r.Get("a"); v != 0 || ok {
		t.Error(v, ok)
	}
	comes(t, r, "e", "c") // b was fresh
	comes(t, r, "f", "b") // d was fresh
}

// Only a Put and a Get make a thing fresh.
func TestNothingElseMakesFresh(t *testing.T) {
	r := letters(t, 3, "abc")
	comes(t, r, "d", "a")
	r.Pin("b")
	r.Let("b")
	r.Pins("b")
	r.Len()
	all(r)
	r.Let("b")
	r.Get("x")
	comes(t, r, "e", "b")
}

func TestDel(t *testing.T) {
	r := letters(t, 3, "abc")
	if v, ok := r.Del("x"); v != 0 || ok {
		t.Error(v, ok)
	}
	has(t, r, "abc")
	r.Pin("b")
	if v, ok := r.Del("b"); v != 2 || !ok {
		t.Error(v, ok)
	}
	has(t, r, "ac")
	if v, ok := r.Del("b"); v != 0 || ok {
		t.Error(v, ok)
	}
	if v, ok := r.Get("b"); v != 0 || ok || r.Pins("b") != 0 {
		t.Error(v, ok, r.Pins("b"))
	}
	no(t, "Pin", r.Pin("b"))
	no(t, "Let", r.Let("b"))
	comes(t, r, "b", "")
	has(t, r, "abc")
	r.Del("a")
	r.Del("b")
	r.Del("c")
	has(t, r, "")
}

// A Del doesn't move the hand, whose frame may be vacant.
func TestDelUnderHand(t *testing.T) {
	r := letters(t, 3, "abc")
	comes(t, r, "d", "a")
	r.Del("b")
	comes(t, r, "e", "")
	has(t, r, "dec")
	comes(t, r, "f", "c") // e was fresh, and is so no more
	comes(t, r, "g", "e") // d was fresh
	has(t, r, "dgf")
}

// P9.3

func TestPins(t *testing.T) {
	r := letters(t, 2, "ab")
	no(t, "Pin", r.Pin("x"))
	no(t, "Let", r.Let("x"))
	no(t, "Let", r.Let("a"))
	if r.Pins("x") != 0 || r.Pins("a") != 0 {
		t.Error(r.Pins("x"), r.Pins("a"))
	}
	for n := range 1000 {
		yes(t, "Pin", r.Pin("a"))
		if r.Pins("a") != n+1 || r.Pins("b") != 0 {
			t.Fatal(n, r.Pins("a"), r.Pins("b"))
		}
	}
	comes(t, r, "c", "b")
	comes(t, r, "d", "c")
	for n := range 1000 {
		has(t, r, "ad")
		yes(t, "Let", r.Let("a"))
		if r.Pins("a") != 999-n {
			t.Fatal(n, r.Pins("a"))
		}
	}
	no(t, "Let", r.Let("a"))
	r.Del("d")
	comes(t, r, "e", "")
	comes(t, r, "f", "a")
}

func TestLen(t *testing.T) {
	r := ring.New[int, int](5)
	for n := range 12 {
		if r.Len() != min(n, 5) {
			t.Error(n, r.Len())
		}
		r.Put(n, n)
		r.Put(n, n)
	}
	for n := range 5 {
		r.Del(7 + n)
		if r.Len() != 4-n {
			t.Error(n, r.Len())
		}
	}
}

func TestAll(t *testing.T) {
	r := ring.New[string, int](3)
	seq := r.All()
	gone := func(want ...pair[string, int]) {
		t.Helper()
		var list []pair[string, int]
		for k, v := range seq {
			list = append(list, pair[string, int]{k, v})
		}
		if !slices.Equal(list, want) {
			t.Error(list, "wanted", want)
		}
	}
	gone()
	r.Put("b", 1)
	r.Put("a", 2)
	gone(pair[string, int]{"b", 1}, pair[string, int]{"a", 2})
	gone(pair[string, int]{"b", 1}, pair[string, int]{"a", 2})
	r.Put("b", 3)
	r.Put("c", 4)
	r.Del("a")
	gone(pair[string, int]{"b", 3}, pair[string, int]{"c", 4})
	r.Put("d", 5)
	gone(pair[string, int]{"b", 3}, pair[string, int]{"d", 5}, pair[string, int]{"c", 4})
}

func TestAllStops(t *testing.T) {
	r := letters(t, 4, "abcd")
	for stop := 1; stop <= 4; stop++ {
		n := 0
		for k, v := range r.All() {
			if n++; v != n || k != string(rune('a'+n-1)) {
				t.Error(k, v, n)
			}
			if n == stop {
				break
			}
		}
		if n != stop {
			t.Error(n, stop)
		}
	}
	r.All()(func(string, int) bool { return false })
	has(t, r, "abcd")
}

// A going tells what was at hand when it began, whatever is done meanwhile.
func TestAllAsItBegan(t *testing.T) {
	r := letters(t, 3, "abc")
	seq := r.All()
	var told []pair[string, int]
	for k, v := range seq {
		told = append(told, pair[string, int]{k, v})
		switch k {
		case "a":
			r.Put("b", 20)
			r.Put("d", 4)
			r.Del("c")
		case "b":
			r.Del("b")
			r.Put("e", 5)
			r.Put("f", 6)
		}
	}
	if !slices.Equal(told, []pair[string, int]{{"a", 1}, {"b", 2}, {"c", 3}}) {
		t.Error(told)
	}
	has(t, r, "def")
	var inner strings.Builder
	for k := range seq {
		r.Del(k)
		for k := range seq {
			inner.WriteString(k)
		}
		inner.WriteString(".")
	}
	if inner.String() != "ef.f.." {
		t.Error(inner.String())
	}
}

// The ways of keys and values

func TestKeys(t *testing.T) {
	type name struct {
		n int
		s string
	}
	p, q := new(int), new(int)
	keys(t, name{1, "a"}, name{1, "b"}, name{2, "a"})
	keys(t, p, q, nil)
	keys(t, [2]int8{1, 2}, [2]int8{2, 1}, [2]int8{})
	keys[any](t, 1, "1", name{})
	keys[any](t, int8(1), int16(1), nil)
	keys(t, 0.5, math.Inf(1), math.Inf(-1))
	keys(t, math.MinInt, 0, math.MaxInt)
	keys(t, "", "\x00", "\xff")
	keys(t, complex(1, 2), 1, 2)
	r := ring.New[float64, int](2)
	r.Put(0, 1)
	if o, ok := r.Put(math.Copysign(0, -1), 2); o.Gone || !ok || r.Len() != 1 {
		t.Error(o, ok, r.Len())
	}
	e := ring.New[struct{}, struct{}](2)
	e.Put(struct{}{}, struct{}{})
	e.Put(struct{}{}, struct{}{})
	if e.Len() != 1 {
		t.Error(e.Len())
	}
}

// keys: two frames, three keys that aren't equal.
func keys[K comparable](t *testing.T, a, b, c K) {
	t.Helper()
	r := ring.New[K, int](2)
	r.Put(a, 1)
	r.Put(b, 2)
	for k, want := range map[int]K{1: a, 2: b} {
		if v, ok := r.Get(want); v != k || !ok {
			t.Error(want, v, ok)
		}
	}
	if v, ok := r.Get(c); v != 0 || ok {
		t.Error(c, v, ok)
	}
	if o, ok := r.Put(c, 3); o != (ring.Out[K, int]{Key: a, Val: 1, Gone: true}) || !ok {
		t.Error(c, o, ok)
	}
	if v, ok := r.Del(b); v != 2 || !ok || r.Len() != 1 {
		t.Error(b, v, ok)
	}
	if list := all(r); len(list) != 1 || list[0].k != c || list[0].v != 3 {
		t.Error(list)
	}
}

func TestValues(t *testing.T) {
	f := ring.New[int, func() int](1)
	f.Put(1, func() int { return 5 })
	if v, ok := f.Get(1); !ok || v() != 5 {
		t.Error(ok)
	}
	if o, ok := f.Put(2, nil); o.Key != 1 || o.Val() != 5 || !ok {
		t.Error(o.Key, ok)
	}
	if v, ok := f.Get(2); v != nil || !ok {
		t.Error(ok)
	}
	l := ring.New[int, []string](1)
	l.Put(1, []string{"a", "b"})
	if v, ok := l.Del(1); !slices.Equal(v, []string{"a", "b"}) || !ok {
		t.Error(v, ok)
	}
	if v, ok := l.Get(1); v != nil || ok {
		t.Error(v, ok)
	}
	type big struct{ list [300]int }
	b := ring.New[string, big](2)
	v := big{}
	v.list[299] = 1
	b.Put("a", v)
	v.list[299] = 2
	if v, ok := b.Get("a"); v.list[299] != 1 || !ok {
		t.Error(v.list[299], ok)
	}
}

// P1: keys that don't equal themselves are ruled out; no call goes astray, and the others are as they were.
func TestKeysThatEqualNothing(t *testing.T) {
	type pair struct{ a, b any }
	bad := []any{[]int{1}, map[int]int{}, func() {}, pair{1, []int{}}, pair{[]int{}, 1}, [1]any{[]int{}}, math.NaN()}
	r := ring.New[any, int](len(bad) + 2)
	r.Put("a", 1)
	r.Put(pair{1, 2}, 2)
	r.Pin("a")
	r.Pin(pair{1, 2})
	for range 3 {
		for _, k := range bad {
			r.Put(k, 3)
			if v, ok := r.Get(k); v != 0 || ok {
				t.Error(v, ok)
			}
			if v, ok := r.Del(k); v != 0 || ok {
				t.Error(v, ok)
			}
			no(t, "Pin", r.Pin(k))
			no(t, "Let", r.Let(k))
			if r.Pins(k) != 0 {
				t.Error(r.Pins(k))
			}
		}
	}
	if r.Len() != len(bad)+2 {
		t.Error(r.Len())
	}
	if v, ok := r.Get("a"); v != 1 || !ok {
		t.Error(v, ok)
	}
	if v, ok := r.Get(pair{1, 2}); v != 2 || !ok {
		t.Error(v, ok)
	}
}
