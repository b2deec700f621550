package cord_test

import (
	"math"
	"math/rand"
	"runtime"
	"slices"
	"strconv"
	"strings"
	"testing"
	"unsafe"

	"seneschal/api"
	"seneschal/cord"
)

func sends(t *testing.T, e *cord.End, body string, want api.Errno) {
	t.Helper()
	if err := e.Send(body); err != want {
		t.Fatalf("Send of %d bytes: %d, wanted %d", len(body), err, want)
	}
}

func outs(t *testing.T, e *cord.End, want ...api.Gram) {
	t.Helper()
	if got := e.Out(); !slices.Equal(got, want) {
		t.Fatalf("Out: %s, wanted %s", told(got), told(want))
	}
}

func takes(t *testing.T, e *cord.End, g api.Gram, want ...string) {
	t.Helper()
	got, err := e.Take(g)
	if err != api.OK || !slices.Equal(got, want) {
		t.Fatalf("Take of %s: %d texts, %d, wanted %d texts", told([]api.Gram{g}), len(got), err, len(want))
	}
}

func refuses(t *testing.T, e *cord.End, g api.Gram, want api.Errno) {
	t.Helper()
	got, err := e.Take(g)
	if err != want || len(got) != 0 {
		t.Fatalf("Take of %s: %d texts, %d, wanted %d", told([]api.Gram{g}), len(got), err, want)
	}
}

// is: what an end tells of itself.
func is(t *testing.T, e *cord.End, open, got int, owes bool) {
	t.Helper()
	if e.Open() != open || e.Got() != got || e.Owes() != owes {
		t.Fatalf("Open %d, Got %d, Owes %t, wanted %d, %d, %t", e.Open(), e.Got(), e.Owes(), open, got, owes)
	}
}

// P12.1

func TestNew(t *testing.T) {
	for _, n := range []int{1, 2, 1000, 1<<30 - 1, 1 << 30} {
		e := cord.New(n)
		if e == nil || e.Epoch() != n {
			t.Fatalf("New(%d): %d", n, e.Epoch())
		}
		is(t, e, 0, 0, false)
		outs(t, e)
	}
	for _, n := range []int{math.MinInt, -1 << 30, -1, 0, 1<<30 + 1, 1 << 32, 1<<32 + 1, math.MaxInt} {
		if cord.New(n) != nil {
			t.Errorf("New(%d) is an end", n)
		}
	}
}

func TestNil(t *testing.T) {
	var e *cord.End
	is(t, e, 0, 0, false)
	if e.Epoch() != 0 {
		t.Error("Epoch:", e.Epoch())
	}
	outs(t, e)
	sends(t, e, "a", api.ErrNil)
	sends(t, e, strings.Repeat("a", 16385), api.ErrNil)
	for _, g := range []api.Gram{{}, {Epoch: 1, Seq: 1, Body: "a"}, {Seq: -1, Ack: -1}, {Body: strings.Repeat("a", 16385)}} {
		refuses(t, e, g, api.ErrNil)
	}
	is(t, e, 0, 0, false)
}

func TestEndsApart(t *testing.T) {
	a, b := cord.New(5), cord.New(5)
	sends(t, a, "x", api.OK)
	takes(t, a, api.Gram{Epoch: 5, Seq: 2, Body: "2"})
	is(t, b, 0, 0, false)
	takes(t, b, api.Gram{Epoch: 5, Seq: 1, Body: "1"}, "1")
	is(t, a, 1, 0, true)
}

func TestOpenAndOwes(t *testing.T) {
	e := cord.New(1)
	sends(t, e, "a", api.OK)
	is(t, e, 1, 0, true)
	sends(t, e, "", api.OK)
	is(t, e, 2, 0, true)
	e.Out()
	is(t, e, 2, 0, true)
	takes(t, e, api.Gram{Epoch: 1, Ack: 1})
	is(t, e, 1, 0, true)
	takes(t, e, api.Gram{Epoch: 1, Ack: 2})
	is(t, e, 0, 0, false)
	takes(t, e, api.Gram{Epoch: 1, Seq: 2, Ack: 2, Body: "y"})
	is(t, e, 0, 0, true)
	takes(t, e, api.Gram{Epoch: 1, Seq: 1, Ack: 2, Body: "x"}, "x", "y")
	is(t, e, 0, 2, true)
	e.Out()
	is(t, e, 0, 2, false)
}

// P12.2

func TestSendHowLong(t *testing.T) {
	e := cord.New(1)
	long := strings.Repeat("x", 16384)
	sends(t, e, long+"x", api.ErrLong)
	sends(t, e, strings.Repeat("x", 1<<17), api.ErrLong)
	is(t, e, 0, 0, false)
	sends(t, e, long, api.OK)
	sends(t, e, "", api.OK)
	sends(t, e, "\x00\xff", api.OK)
	outs(t, e, api.Gram{Epoch: 1, Seq: 1, Body: long}, api.Gram{Epoch: 1, Seq: 2}, api.Gram{Epoch: 1, Seq: 3, Body: "\x00\xff"})
}

func TestSendHowMany(t *testing.T) {
	e := cord.New(1)
	for i := range 32 {
		sends(t, e, strconv.Itoa(i), api.OK)
	}
	sends(t, e, "z", api.ErrFull)
	sends(t, e, strings.Repeat("x", 16385), api.ErrLong)
	is(t, e, 32, 0, true)
	takes(t, e, api.Gram{Epoch: 1, Ack: 2})
	sends(t, e, "32", api.OK)
	sends(t, e, "33", api.OK)
	sends(t, e, "z", api.ErrFull)
	list := e.Out()
	if len(list) != 32 {
		t.Fatal(len(list), "datagrams")
	}
	for i, g := range list {
		if g != (api.Gram{Epoch: 1, Seq: i + 3, Body: strconv.Itoa(i + 2)}) {
			t.Error(i, told(list[i:i+1]))
		}
	}
	refuses(t, e, api.Gram{Epoch: 1, Ack: 35}, api.ErrForm)
	takes(t, e, api.Gram{Epoch: 1, Ack: 34})
	is(t, e, 0, 0, false)
}

func TestOutGoesOn(t *testing.T) {
	e := cord.New(9)
	sends(t, e, "a", api.OK)
	sends(t, e, "b", api.OK)
	for range 3 {
		outs(t, e, api.Gram{Epoch: 9, Seq: 1, Body: "a"}, api.Gram{Epoch: 9, Seq: 2, Body: "b"})
	}
	takes(t, e, api.Gram{Epoch: 9, Seq: 1, Ack: 1, Body: "x"}, "x")
	outs(t, e, api.Gram{Epoch: 9, Seq: 2, Ack: 1, Body: "b"})
	sends(t, e, "c", api.OK)
	outs(t, e, api.Gram{Epoch: 9, Seq: 2, Ack: 1, Body: "b"}, api.Gram{Epoch: 9, Seq: 3, Ack: 1, Body: "c"})
	takes(t, e, api.Gram{Epoch: 9, Ack: 3})
	outs(t, e)
}

func TestAnAcknowledgementAlone(t *testing.T) {
	e := cord.New(9)
	outs(t, e)
	takes(t, e, api.Gram{Epoch: 9, Seq: 1, Body: "x"}, "x")
	outs(t, e, api.Gram{Epoch: 9, Ack: 1})
	outs(t, e)
	// Of a text that is here already, of one that is too early, and of one that is early again.
	takes(t, e, api.Gram{Epoch: 9, Seq: 1, Body: "x"})
	outs(t, e, api.Gram{Epoch: 9, Ack: 1})
	outs(t, e)
	for range 2 {
		takes(t, e, api.Gram{Epoch: 9, Seq: 3, Body: "z"})
		outs(t, e, api.Gram{Epoch: 9, Ack: 1})
		outs(t, e)
	}
	// Of an acknowledgement none is owed.
	takes(t, e, api.Gram{Epoch: 9})
	is(t, e, 0, 1, false)
}

// The texts take along what is owed, and then it isn't owed by itself.
func TestAnAcknowledgementWithATextIsNoMoreOwed(t *testing.T) {
	e := cord.New(9)
	takes(t, e, api.Gram{Epoch: 9, Seq: 1, Body: "x"}, "x")
	sends(t, e, "a", api.OK)
	outs(t, e, api.Gram{Epoch: 9, Seq: 1, Ack: 1, Body: "a"})
	takes(t, e, api.Gram{Epoch: 9, Ack: 1})
	is(t, e, 0, 1, false)
	outs(t, e)
}

// P12.3

func TestExample(t *testing.T) {
	a, b := cord.New(1), cord.New(1)
	sends(t, a, "a", api.OK)
	sends(t, a, "b", api.OK)
	one, two := api.Gram{Epoch: 1, Seq: 1, Body: "a"}, api.Gram{Epoch: 1, Seq: 2, Body: "b"}
	outs(t, a, one, two)
	takes(t, b, two)
	takes(t, b, one, "a", "b")
	takes(t, b, one)
	outs(t, b, api.Gram{Epoch: 1, Ack: 2})
}

func TestTakeOfAnotherEpoch(t *testing.T) {
	e := cord.New(7)
	for _, n := range []int{math.MinInt, -7, -1, 0, 1, 6, 8, 1<<32 + 7, math.MaxInt} {
		for _, g := range []api.Gram{{Seq: 1, Body: "a"}, {}, {Seq: -1}, {Ack: -1}, {Ack: 1}, {Seq: 33}, {Body: "a"}, {Seq: 1, Body: strings.Repeat("a", 16385)}} {
			g.Epoch = n
			refuses(t, e, g, api.ErrOld)
			is(t, e, 0, 0, false)
		}
	}
}

func TestTakeOfWrongNumbers(t *testing.T) {
	e := cord.New(7)
	sends(t, e, "a", api.OK)
	takes(t, e, api.Gram{Epoch: 7, Seq: 1, Body: "x"}, "x")
	e.Out()
	long := strings.Repeat("x", 16385)
	wrong := []api.Gram{{Seq: -1}, {Seq: math.MinInt}, {Ack: -1}, {Ack: math.MinInt}, {Ack: 2}, {Ack: math.MaxInt}, {Seq: 34}, {Seq: math.MaxInt}, {Body: "x"}, {Body: "\x00"}, {Body: long}, {Ack: 1, Body: "x"}, {Seq: 2, Ack: 2}, {Seq: 2, Ack: -1}, {Seq: 34, Ack: 1}, {Seq: -1, Ack: 1}}
	for _, g := range wrong {
		g.Epoch = 7
		refuses(t, e, g, api.ErrForm)
		is(t, e, 1, 1, true)
		if g.Seq != 0 {
			g.Body = long
			refuses(t, e, g, api.ErrForm)
		}
	}
	// An acknowledgement isn't owed, and nothing is kept: the text that was sent is the only one that goes.
	outs(t, e, api.Gram{Epoch: 7, Seq: 1, Ack: 1, Body: "a"})
	takes(t, e, api.Gram{Epoch: 7, Ack: 1})
	is(t, e, 0, 1, false)
	takes(t, e, api.Gram{Epoch: 7, Seq: 2, Body: "y"}, "y")
}

func TestTakeHowLong(t *testing.T) {
	e := cord.New(7)
	sends(t, e, "a", api.OK)
	long := strings.Repeat("x", 16384)
	for _, seq := range []int{1, 2, 32} {
		refuses(t, e, api.Gram{Epoch: 7, Seq: seq, Ack: 1, Body: long + "x"}, api.ErrLong)
		is(t, e, 1, 0, true)
	}
	takes(t, e, api.Gram{Epoch: 7, Ack: 1})
	is(t, e, 0, 0, false)
	refuses(t, e, api.Gram{Epoch: 7, Seq: 1, Body: long + "x"}, api.ErrLong)
	is(t, e, 0, 0, false)
	takes(t, e, api.Gram{Epoch: 7, Seq: 1, Body: long}, long)
	// One that is here already is too long all the same.
	refuses(t, e, api.Gram{Epoch: 7, Seq: 1, Body: long + "x"}, api.ErrLong)
}

// How far ahead a text may come hangs on how many have come in order, not on those that are here.
func TestTakeHowFarAhead(t *testing.T) {
	e := cord.New(7)
	refuses(t, e, api.Gram{Epoch: 7, Seq: 33, Body: "33"}, api.ErrForm)
	for n := 32; n > 1; n-- {
		takes(t, e, api.Gram{Epoch: 7, Seq: n, Body: strconv.Itoa(n)})
	}
	refuses(t, e, api.Gram{Epoch: 7, Seq: 33, Body: "33"}, api.ErrForm)
	is(t, e, 0, 0, true)
	want := []string{"1"}
	for n := 2; n <= 32; n++ {
		want = append(want, strconv.Itoa(n))
	}
	takes(t, e, api.Gram{Epoch: 7, Seq: 1, Body: "1"}, want...)
	is(t, e, 0, 32, true)
	refuses(t, e, api.Gram{Epoch: 7, Seq: 65}, api.ErrForm)
	takes(t, e, api.Gram{Epoch: 7, Seq: 64, Body: "64"})
	takes(t, e, api.Gram{Epoch: 7, Seq: 33, Body: "33"}, "33")
	takes(t, e, api.Gram{Epoch: 7, Seq: 65, Body: "65"})
}

// The first text of a number holds, also an empty one.
func TestTheFirstTextHolds(t *testing.T) {
	e := cord.New(7)
	takes(t, e, api.Gram{Epoch: 7, Seq: 2, Body: "two"})
	takes(t, e, api.Gram{Epoch: 7, Seq: 2, Body: "other"})
	takes(t, e, api.Gram{Epoch: 7, Seq: 3})
	takes(t, e, api.Gram{Epoch: 7, Seq: 3, Body: "other"})
	takes(t, e, api.Gram{Epoch: 7, Seq: 1}, "", "two", "")
	for n := 1; n <= 3; n++ {
		takes(t, e, api.Gram{Epoch: 7, Seq: n, Body: "late"})
	}
	is(t, e, 0, 3, true)
	takes(t, e, api.Gram{Epoch: 7, Seq: 4, Body: "four"}, "four")
}

func TestTakeStopsAtAGap(t *testing.T) {
	e := cord.New(7)
	for _, n := range []int{2, 3, 5, 8} {
		takes(t, e, api.Gram{Epoch: 7, Seq: n, Body: strconv.Itoa(n)})
	}
	takes(t, e, api.Gram{Epoch: 7, Seq: 1, Body: "1"}, "1", "2", "3")
	is(t, e, 0, 3, true)
	takes(t, e, api.Gram{Epoch: 7, Seq: 4, Body: "4"}, "4", "5")
	takes(t, e, api.Gram{Epoch: 7, Seq: 7, Body: "7"})
	takes(t, e, api.Gram{Epoch: 7, Seq: 6, Body: "6"}, "6", "7", "8")
	is(t, e, 0, 8, true)
}

func TestAcknowledgements(t *testing.T) {
	e := cord.New(7)
	for i := range 10 {
		sends(t, e, strconv.Itoa(i+1), api.OK)
	}
	for _, x := range []struct{ ack, open int }{{0, 10}, {3, 7}, {1, 7}, {3, 7}, {0, 7}, {4, 6}, {9, 1}, {8, 1}, {10, 0}, {2, 0}, {10, 0}} {
		takes(t, e, api.Gram{Epoch: 7, Ack: x.ack})
		if e.Open() != x.open {
			t.Fatalf("Ack %d: Open %d, wanted %d", x.ack, e.Open(), x.open)
		}
		if list := e.Out(); len(list) != x.open || x.open > 0 && list[0] != (api.Gram{Epoch: 7, Seq: 11 - x.open, Body: strconv.Itoa(11 - x.open)}) {
			t.Fatalf("Ack %d: Out %s", x.ack, told(list))
		}
	}
	sends(t, e, "11", api.OK)
	outs(t, e, api.Gram{Epoch: 7, Seq: 11, Body: "11"})
	// One that comes with a late or doubled text counts, too.
	takes(t, e, api.Gram{Epoch: 7, Seq: 3, Ack: 11, Body: "z"})
	is(t, e, 0, 0, true)
	sends(t, e, "12", api.OK)
	takes(t, e, api.Gram{Epoch: 7, Seq: 3, Ack: 12, Body: "z"})
	is(t, e, 0, 0, true)
}

func TestClientAndUpArentRead(t *testing.T) {
	e := cord.New(7)
	n := 0
	for _, client := range []int{math.MinInt, -1, 0, 1, 8, 9, math.MaxInt} {
		for _, up := range []bool{false, true} {
			n++
			takes(t, e, api.Gram{Client: client, Up: up, Epoch: 7, Seq: n, Body: "a"}, "a")
			outs(t, e, api.Gram{Epoch: 7, Ack: n})
		}
	}
}

// P12.4

// net is what is under way from one end to the other, any of which may come at any time, and again.
type net struct {
	from, to side
	way      []api.Gram
	sent     []string
	came     []string
}

func (w *net) send(r *rand.Rand) {
	text := strconv.Itoa(r.Intn(50))
	if w.from.e.Open() < 32 {
		w.sent = append(w.sent, text)
	}
	w.from.send(text)
}

// tick: each datagram of Out goes under way, is lost, or goes under way twice.
func (w *net) tick(r *rand.Rand, lose int) {
	for _, g := range w.from.out() {
		for k := r.Intn(10); k >= lose; k -= 5 {
			w.way = append(w.way, g)
		}
	}
}

// move: one of those under way comes; it is under way no more, or stays there.
func (w *net) move(t *testing.T, r *rand.Rand) {
	if len(w.way) == 0 {
		return
	}
	i := r.Intn(len(w.way))
	w.came = append(w.came, w.to.take(w.way[i])...)
	if r.Intn(4) > 0 {
		w.way = slices.Delete(w.way, i, i+1)
	}
	w.isBeginning(t)
}

func (w *net) isBeginning(t *testing.T) {
	if len(w.came) > len(w.sent) || !slices.Equal(w.came, w.sent[:len(w.came)]) {
		t.Fatalf("what came: %v, what was given to Send: %v", w.came, w.sent)
	}
}

func TestTwoEnds(t *testing.T) {
	r := rand.New(rand.NewSource(4))
	for k := range 400 {
		a, b := newSide(t, 2), newSide(t, 2)
		ways := []*net{{from: a, to: b}, {from: b, to: a}}
		lose := 1 + k%8
		for range 400 {
			w := ways[r.Intn(2)]
			switch r.Intn(6) {
			case 0:
				w.send(r)
			case 1:
				w.tick(r, lose)
			default:
				w.move(t, r)
			}
		}
		calm(t, r, ways)
	}
}

// calm: nothing is lost any more, though it may be out of order; then all comes, and both owe nothing.
func calm(t *testing.T, r *rand.Rand, ways []*net) {
	t.Helper()
	for k := 0; ways[0].from.e.Owes() || ways[1].from.e.Owes(); k++ {
		if k == 10 {
			t.Fatal("they go on without an end")
		}
		for _, w := range ways {
			w.way = append(w.way, w.from.out()...)
			for len(w.way) > 0 {
				w.move(t, r)
			}
		}
	}
	for _, w := range ways {
		if !slices.Equal(w.came, w.sent) || w.to.e.Got() != len(w.sent) || w.from.e.Open() != 0 {
			t.Fatalf("what came: %v, what was given to Send: %v", w.came, w.sent)
		}
	}
}

// Four datagrams in every order, lost and doubled, eight comings in all.
func TestEveryOrder(t *testing.T) {
	a := cord.New(2)
	for _, s := range []string{"a", "b", "c", "d"} {
		sends(t, a, s, api.OK)
	}
	list := a.Out()
	for k := range 1 << 16 {
		b := cord.New(2)
		var came string
		seen := map[int]bool{}
		for i := range 8 {
			at := k >> (2 * i) & 3
			seen[at] = true
			l, e := b.Take(list[at])
			came += strings.Join(l, "")
			if e != api.OK || !strings.HasPrefix("abcd", came) {
				t.Fatal(k, came, e)
			}
		}
		if len(seen) == 4 && came != "abcd" {
			t.Fatal(k, came)
		}
	}
}

func TestManyTexts(t *testing.T) {
	a, b := cord.New(2), cord.New(2)
	var came []string
	for n := 0; n < 20000; {
		for a.Send(strconv.Itoa(n+1)) == api.OK {
			n++
		}
		for _, g := range slices.Backward(a.Out()) {
			l, e := b.Take(g)
			if e != api.OK {
				t.Fatal(told([]api.Gram{g}), e)
			}
			came = append(came, l...)
		}
		for _, g := range b.Out() {
			takes(t, a, g)
		}
	}
	if a.Open() != 0 || b.Got() != len(came) || len(came) < 20000 {
		t.Fatal(a.Open(), b.Got(), len(came))
	}
	for i, s := range came {
		if s != strconv.Itoa(i+1) {
			t.Fatal(i, s)
		}
	}
}

func TestAnswersAreNewMemory(t *testing.T) {
	a, b := cord.New(2), cord.New(2)
	sends(t, a, "a", api.OK)
	sends(t, a, "b", api.OK)
	list := a.Out()
	want := slices.Clone(list)
	list[0] = api.Gram{}
	_ = append(list[:1], api.Gram{})
	outs(t, a, want...)
	one := a.Out()
	two := a.Out()
	if unsafe.SliceData(one) == unsafe.SliceData(two) {
		t.Error("two answers of Out are one list")
	}
	takes(t, b, want[1])
	told, _ := b.Take(want[0])
	told[0], told[1] = "x", "y"
	told = append(told[:0], "u", "v", "w")
	takes(t, b, api.Gram{Epoch: 2, Seq: 3, Body: "c"}, "c")
	takes(t, a, api.Gram{Epoch: 2, Ack: 1})
	if one[0] != want[0] || one[1] != want[1] || len(told) != 3 {
		t.Error("an answer was changed by a later call")
	}
}

// heap is how many bytes are at hand that are still used.
func heap() int {
	runtime.GC()
	var m runtime.MemStats
	runtime.ReadMemStats(&m)
	return int(m.HeapAlloc)
}

// Texts that were told, or are acknowledged, aren't kept; each comes twice here, the second time late.
func TestNoTextIsKeptForNothing(t *testing.T) {
	a, b := cord.New(2), cord.New(2)
	began := heap()
	for n := 1; n <= 2000; n++ {
		sends(t, a, strings.Repeat(string(rune('a'+n%26)), 16384), api.OK)
		g := a.Out()[0]
		takes(t, b, g, g.Body)
		takes(t, b, api.Gram{Epoch: 2, Seq: n, Body: strings.Clone(g.Body)})
		takes(t, a, b.Out()[0])
	}
	if n := heap() - began; n > 4<<20 {
		t.Errorf("%d bytes are kept", n)
	}
	is(t, a, 0, 0, false)
	is(t, b, 0, 2000, false)
}

// P1 of DOC.md

func TestCallsEndWhateverTheyAreGiven(t *testing.T) {
	for _, epoch := range wild {
		e := cord.New(epoch)
		if (e != nil) != (epoch >= 1 && epoch <= 1<<30) {
			t.Errorf("New(%d)", epoch)
		}
		for _, seq := range wild {
			for _, ack := range wild {
				e.Send("a")
				e.Take(api.Gram{Client: seq, Up: true, Epoch: epoch, Seq: seq, Ack: ack, Body: "b"})
				e.Take(api.Gram{Epoch: ack, Seq: seq, Ack: ack})
				if owes := e.Owes(); owes != (len(e.Out()) > 0) {
					t.Errorf("epoch %d, Seq %d, Ack %d: Owes %t", epoch, seq, ack, owes)
				}
			}
		}
	}
}
