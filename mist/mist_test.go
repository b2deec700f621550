package mist_test

import (
	"maps"
	"math/rand"
	"runtime"
	"slices"
	"strconv"
	"strings"
	"testing"

	"seneschal/api"
	"seneschal/mist"
)

func gram(client int, up bool, body string) api.Gram {
	return api.Gram{Client: client, Up: up, Body: body}
}

func puts(t *testing.T, n *mist.Net, g api.Gram, want api.Errno) {
	t.Helper()
	if e := n.Put(g); e != want {
		t.Fatalf("Put of %s: %d, wanted %d", told([]api.Gram{g}), e, want)
	}
}

// picks: a Pick of these answers that datagram.
func picks(t *testing.T, n *mist.Net, client int, up bool, at int, want api.Gram) {
	t.Helper()
	if g, ok := n.Pick(client, up, at); g != want || !ok {
		t.Fatalf("Pick(%d, %t, %d): %s, %t, wanted %s", client, up, at, told([]api.Gram{g}), ok, told([]api.Gram{want}))
	}
}

func picksNone(t *testing.T, n *mist.Net, client int, up bool, at int) {
	t.Helper()
	if g, ok := n.Pick(client, up, at); g != (api.Gram{}) || ok {
		t.Fatalf("Pick(%d, %t, %d): %s, %t", client, up, at, told([]api.Gram{g}), ok)
	}
}

func copies(t *testing.T, n *mist.Net, client int, up bool, at int, want bool) {
	t.Helper()
	if ok := n.Copy(client, up, at); ok != want {
		t.Fatalf("Copy(%d, %t, %d): %t", client, up, at, ok)
	}
}

func counts(t *testing.T, n *mist.Net, client int, up bool, want int) {
	t.Helper()
	if k := n.Count(client, up); k != want {
		t.Fatalf("Count(%d, %t): %d, wanted %d", client, up, k, want)
	}
}

// under: what is under way, in order, and nothing else.
func under(t *testing.T, n *mist.Net, want ...api.Gram) {
	t.Helper()
	var list []api.Gram
	for g := range n.All() {
		list = append(list, g)
	}
	if !slices.Equal(list, want) {
		t.Fatalf("All: %s, wanted %s", told(list), told(want))
	}
}

// four are on four ways, of two clients.
func four(t *testing.T) (*mist.Net, []api.Gram) {
	t.Helper()
	list := []api.Gram{gram(1, true, "a"), gram(2, false, "b"), gram(1, false, "c"), gram(2, true, "d")}
	return netOf(t, list...), list
}

func netOf(t *testing.T, list ...api.Gram) *mist.Net {
	t.Helper()
	n := mist.New()
	for _, g := range list {
		puts(t, n, g, api.OK)
	}
	return n
}

// P13.1

func TestNew(t *testing.T) {
	n := mist.New()
	if n == nil {
		t.Fatal("no net")
	}
	under(t, n)
	for _, client := range wild {
		for _, up := range []bool{false, true} {
			counts(t, n, client, up, 0)
			for _, at := range wild {
				picksNone(t, n, client, up, at)
				copies(t, n, client, up, at, false)
			}
		}
		if k := n.Clear(client); k != 0 {
			t.Error(client, k)
		}
	}
	if g, ok := n.Eldest(); g != (api.Gram{}) || ok {
		t.Error(g, ok)
	}
	under(t, n)
}

func TestNil(t *testing.T) {
	var n *mist.Net
	for _, client := range wild {
		for _, up := range []bool{false, true} {
			puts(t, n, gram(client, up, "a"), api.ErrNil)
			counts(t, n, client, up, 0)
			for _, at := range wild {
				picksNone(t, n, client, up, at)
				copies(t, n, client, up, at, false)
			}
		}
		if k := n.Clear(client); k != 0 {
			t.Error(client, k)
		}
	}
	if g, ok := n.Eldest(); g != (api.Gram{}) || ok {
		t.Error(g, ok)
	}
	under(t, n)
	n.All()(func(api.Gram) bool {
		t.Error("a nil net yields")
		return false
	})
}

func TestNetsApart(t *testing.T) {
	a, b := mist.New(), mist.New()
	puts(t, a, gram(1, true, "a"), api.OK)
	under(t, b)
	puts(t, b, gram(1, true, "b"), api.OK)
	a.Clear(1)
	under(t, a)
	under(t, b, gram(1, true, "b"))
}

func TestPutOfWhichClient(t *testing.T) {
	for _, client := range wild {
		for _, up := range []bool{false, true} {
			n := mist.New()
			g := gram(client, up, "a")
			if client < 1 || client > 8 {
				puts(t, n, g, api.ErrArg)
				under(t, n)
				counts(t, n, client, up, 0)
				continue
			}
			puts(t, n, g, api.OK)
			under(t, n, g)
			counts(t, n, client, up, 1)
			counts(t, n, client, !up, 0)
		}
	}
}

// Whatever a datagram has beside its way, it is kept and told as it is, also when it is doubled.
func TestPutOfAnyDatagram(t *testing.T) {
	bodies := []string{"", "\x00", "\xff\xfe", strings.Repeat("x", 16384), strings.Repeat("y", 1<<17)}
	for i, a := range wild {
		for j, b := range wild {
			g := api.Gram{Client: 1 + i%8, Up: j%2 == 0, Epoch: a, Seq: b, Ack: wild[(i+j)%len(wild)], Body: bodies[(i+j)%len(bodies)]}
			n := netOf(t, g)
			copies(t, n, g.Client, g.Up, 0, true)
			under(t, n, g, g)
			picks(t, n, g.Client, g.Up, 1, g)
			if x, ok := n.Eldest(); x != g || !ok {
				t.Fatalf("%+v, wanted %+v", x, g)
			}
		}
	}
}

// 64 are at most under way on a way, whatever is on the others; one more is lost, and changes nothing.
func TestPutOnAFullWay(t *testing.T) {
	n := mist.New()
	var want []api.Gram
	for client := 1; client <= 8; client++ {
		for _, up := range []bool{true, false} {
			for k := range 64 {
				counts(t, n, client, up, k)
				want = append(want, gram(client, up, strconv.Itoa(k)))
				puts(t, n, want[len(want)-1], api.OK)
			}
			for range 2 {
				puts(t, n, gram(client, up, "z"), api.ErrFull)
				copies(t, n, client, up, 0, false)
				copies(t, n, client, up, 63, false)
			}
			counts(t, n, client, up, 64)
		}
	}
	under(t, n, want...)
	puts(t, n, gram(0, true, "z"), api.ErrArg)
	puts(t, n, gram(9, false, "z"), api.ErrArg)
	// Room is made by what comes, in each way of coming, on that way alone.
	picks(t, n, 3, false, 63, gram(3, false, "63"))
	puts(t, n, gram(3, true, "z"), api.ErrFull)
	puts(t, n, gram(2, false, "z"), api.ErrFull)
	puts(t, n, gram(3, false, "new"), api.OK)
	puts(t, n, gram(3, false, "z"), api.ErrFull)
	n.Eldest()
	copies(t, n, 1, true, 0, true)
	copies(t, n, 1, true, 0, false)
	if k := n.Clear(5); k != 128 {
		t.Error(k)
	}
	puts(t, n, gram(5, true, "new"), api.OK)
	counts(t, n, 5, true, 1)
	counts(t, n, 1, true, 64)
}

func TestPutIsBehindAll(t *testing.T) {
	n, list := four(t)
	under(t, n, list...)
	more := gram(1, true, "e")
	puts(t, n, more, api.OK)
	under(t, n, append(list, more)...)
	// One that is like another one is one more.
	puts(t, n, more, api.OK)
	under(t, n, append(list, more, more)...)
	counts(t, n, 1, true, 3)
}

func TestCountIsOfAWay(t *testing.T) {
	n := mist.New()
	for client := 1; client <= 8; client++ {
		for range client {
			puts(t, n, gram(client, true, "a"), api.OK)
		}
		for range 2 * client {
			puts(t, n, gram(client, false, "a"), api.OK)
		}
	}
	for client := 1; client <= 8; client++ {
		counts(t, n, client, true, client)
		counts(t, n, client, false, 2*client)
	}
	for _, client := range wild {
		if client < 1 || client > 8 {
			counts(t, n, client, true, 0)
			counts(t, n, client, false, 0)
		}
	}
}

// P13.2

func TestExample(t *testing.T) {
	a, b := gram(1, true, "a"), gram(1, true, "b")
	n := netOf(t, a, b)
	copies(t, n, 1, true, 0, true)
	under(t, n, a, b, a)
	picks(t, n, 1, true, 1, b)
	under(t, n, a, a)
}

// The number is one on the way, not among all.
func TestPickByTheNumberOnItsWay(t *testing.T) {
	ways := [][]api.Gram{{gram(1, true, "a0"), gram(1, true, "a1"), gram(1, true, "a2")}, {gram(1, false, "b0"), gram(1, false, "b1"), gram(1, false, "b2")}, {gram(2, true, "c0"), gram(2, true, "c1"), gram(2, true, "c2")}}
	var list []api.Gram
	for i := range 3 {
		for _, w := range ways {
			list = append(list, w[i])
		}
	}
	for _, w := range ways {
		for at, want := range w {
			n := netOf(t, list...)
			picks(t, n, want.Client, want.Up, at, want)
			left := slices.DeleteFunc(slices.Clone(list), func(g api.Gram) bool { return g == want })
			under(t, n, left...)
			counts(t, n, want.Client, want.Up, 2)
			// What stood behind it has come up by one.
			if at < 2 {
				picks(t, n, want.Client, want.Up, at, w[at+1])
			} else {
				picksNone(t, n, want.Client, want.Up, at)
			}
		}
	}
}

func TestPickAndCopyOfNone(t *testing.T) {
	n, list := four(t)
	for _, client := range wild {
		for _, up := range []bool{false, true} {
			for _, at := range wild {
				if at == 0 && (client == 1 || client == 2) {
					continue
				}
				picksNone(t, n, client, up, at)
				copies(t, n, client, up, at, false)
			}
		}
	}
	under(t, n, list...)
}

func TestCopy(t *testing.T) {
	n, list := four(t)
	want := slices.Clone(list)
	for range 2 {
		for _, g := range list {
			copies(t, n, g.Client, g.Up, 0, true)
			want = append(want, g)
			under(t, n, want...)
		}
	}
	// Of those that were doubled, too; it stays where it is, and the copy is behind all.
	picks(t, n, 1, true, 0, list[0])
	e := gram(1, true, "e")
	puts(t, n, e, api.OK)
	copies(t, n, 1, true, 1, true)
	copies(t, n, 1, true, 2, true)
	under(t, n, append(want[1:], e, list[0], e)...)
}

func TestCopyFillsAWay(t *testing.T) {
	n := netOf(t, gram(4, false, "a"), gram(4, true, "b"))
	for k := 1; k < 64; k++ {
		counts(t, n, 4, false, k)
		copies(t, n, 4, false, k-1, true)
	}
	counts(t, n, 4, false, 64)
	copies(t, n, 4, false, 0, false)
	puts(t, n, gram(4, false, "c"), api.ErrFull)
	counts(t, n, 4, false, 64)
	copies(t, n, 4, true, 0, true)
	counts(t, n, 4, true, 2)
}

func TestEldest(t *testing.T) {
	n, list := four(t)
	// A copy is as young as it was made, though the same is there longer.
	copies(t, n, 1, true, 0, true)
	for i, want := range append(slices.Clone(list), list[0]) {
		g, ok := n.Eldest()
		if g != want || !ok {
			t.Fatalf("the Eldest %d: %s, %t", i, told([]api.Gram{g}), ok)
		}
		if i == 0 {
			puts(t, n, gram(8, true, "e"), api.OK)
		}
	}
	under(t, n, gram(8, true, "e"))
	if g, ok := n.Eldest(); g != gram(8, true, "e") || !ok {
		t.Error(g, ok)
	}
	for range 2 {
		if g, ok := n.Eldest(); g != (api.Gram{}) || ok {
			t.Error(g, ok)
		}
	}
}

func TestClear(t *testing.T) {
	var list []api.Gram
	for k := range 60 {
		list = append(list, gram(1+k*k%5, k%3 == 0, strconv.Itoa(k)))
	}
	for _, client := range append([]int{3, 4, 5, 6}, wild...) {
		n := netOf(t, list...)
		left := slices.DeleteFunc(slices.Clone(list), func(g api.Gram) bool { return g.Client == client })
		if k := n.Clear(client); k != len(list)-len(left) {
			t.Errorf("Clear(%d): %d, wanted %d", client, k, len(list)-len(left))
		}
		under(t, n, left...)
		counts(t, n, client, true, 0)
		counts(t, n, client, false, 0)
		if k := n.Clear(client); k != 0 {
			t.Errorf("Clear(%d) again: %d", client, k)
		}
		puts(t, n, gram(8, true, "z"), api.OK)
		under(t, n, append(left, gram(8, true, "z"))...)
	}
}

func TestAllStops(t *testing.T) {
	n, list := four(t)
	for stop := 1; stop <= 4; stop++ {
		k := 0
		for g := range n.All() {
			if g != list[k] {
				t.Error(k, told([]api.Gram{g}))
			}
			if k++; k == stop {
				break
			}
		}
		if k != stop {
			t.Error(k, stop)
		}
	}
	n.All()(func(api.Gram) bool { return false })
	under(t, n, list...)
}

// An iterator can be gone over again, and tells what is under way then.
func TestAllAgain(t *testing.T) {
	n := mist.New()
	all := n.All()
	gone := func(want string) {
		t.Helper()
		var list string
		for g := range all {
			list += g.Body
		}
		if list != want {
			t.Errorf("%q, wanted %q", list, want)
		}
	}
	gone("")
	for _, s := range []string{"a", "b", "c"} {
		puts(t, n, gram(1, true, s), api.OK)
	}
	gone("abc")
	gone("abc")
	n.Pick(1, true, 1)
	n.Copy(1, true, 0)
	gone("aca")
	n.Clear(1)
	gone("")
}

// A going tells what was under way when it began, whatever is done meanwhile.
func TestAllAsItBegan(t *testing.T) {
	n, list := four(t)
	all := n.All()
	var came []api.Gram
	for g := range all {
		came = append(came, g)
		switch g.Body {
		case "a":
			n.Pick(1, false, 0)
			n.Copy(2, true, 0)
			puts(t, n, gram(3, true, "e"), api.OK)
		case "b":
			n.Eldest()
			n.Clear(2)
			puts(t, n, gram(4, true, "f"), api.OK)
			puts(t, n, gram(4, true, "g"), api.OK)
		}
	}
	if !slices.Equal(came, list) {
		t.Error(told(came))
	}
	under(t, n, gram(3, true, "e"), gram(4, true, "f"), gram(4, true, "g"))
	rows := ""
	for range all {
		n.Eldest()
		for g := range all {
			rows += g.Body
		}
		rows += "."
	}
	if rows != "fg.g.." {
		t.Error(rows)
	}
}

// P13.3

// What is picked always at 0 comes in the order in which it was put on its way.
func TestPickedAtZeroComesInOrder(t *testing.T) {
	r := rand.New(rand.NewSource(133))
	n := mist.New()
	var put, came [9][2][]int
	for k := range 20000 {
		client, way := 1+r.Intn(8), r.Intn(2)
		if r.Intn(2) == 0 {
			if n.Put(api.Gram{Client: client, Up: way == 1, Seq: k}) == api.OK {
				put[client][way] = append(put[client][way], k)
			}
			continue
		}
		if g, ok := n.Pick(client, way == 1, 0); ok {
			came[g.Client][way] = append(came[g.Client][way], g.Seq)
		}
	}
	for client := range put {
		for way := range 2 {
			for {
				g, ok := n.Pick(client, way == 1, 0)
				if !ok {
					break
				}
				came[client][way] = append(came[client][way], g.Seq)
			}
			if !slices.Equal(came[client][way], put[client][way]) {
				t.Errorf("client %d, way %d: %v, wanted %v", client, way, came[client][way], put[client][way])
			}
		}
	}
}

// What comes by Eldest does so in the order in which it was put, on whatever way.
func TestTheEldestComeInOrder(t *testing.T) {
	r := rand.New(rand.NewSource(134))
	for range 50 {
		n := mist.New()
		next, number := 1, 0
		bias := 1 + r.Intn(9)
		for range 3000 {
			if r.Intn(10) < bias {
				if n.Put(api.Gram{Client: 1 + r.Intn(8), Up: r.Intn(2) == 0, Seq: number + 1}) == api.OK {
					number++
				}
				continue
			}
			g, ok := n.Eldest()
			if ok != (next <= number) || ok && g.Seq != next {
				t.Fatalf("%d, %t, wanted %d of %d", g.Seq, ok, next, number)
			}
			if ok {
				next++
			}
		}
	}
}

// book is what is to come, by how often it was put and doubled and hasn't come yet.
type book map[api.Gram]int

func (b book) comes(t *testing.T, g api.Gram) {
	t.Helper()
	if b[g] == 0 {
		t.Fatalf("%+v came, and isn't under way", g)
	}
	b[g]--
}

// doubled writes down what is under way behind a Copy and wasn't ahead of it.
func (b book) doubled(t *testing.T, n *mist.Net, client int, up bool, at int) {
	t.Helper()
	ahead := slices.Collect(n.All())
	ok := n.Copy(client, up, at)
	behind := slices.Collect(n.All())
	if !ok {
		behind = append(behind, api.Gram{})
	}
	if len(behind) != len(ahead)+1 || !slices.Equal(behind[:len(ahead)], ahead) {
		t.Fatalf("Copy(%d, %t, %d), %t: %s, ahead of it %s", client, up, at, ok, told(behind), told(ahead))
	}
	if ok {
		g := behind[len(ahead)]
		if g.Client != client || g.Up != up || b[g] == 0 {
			t.Fatalf("Copy(%d, %t, %d): %+v", client, up, at, g)
		}
		b[g]++
	}
}

// However it is picked, doubled and cleared, each that was put comes once, and once more for each Copy of it; nothing else comes.
func TestNothingComesThatWasntPut(t *testing.T) {
	r := rand.New(rand.NewSource(135))
	for range 30 {
		n, b := mist.New(), book{}
		for k := range 1500 {
			client, up := 1+r.Intn(3), r.Intn(2) == 0
			at := r.Intn(n.Count(client, up) + 1)
			switch r.Intn(8) {
			case 0:
				if g, ok := n.Eldest(); ok {
					b.comes(t, g)
				}
			case 1:
				if g, ok := n.Pick(client, up, at); ok {
					b.comes(t, g)
				}
			case 2:
				b.doubled(t, n, client, up, at)
			case 3:
				if r.Intn(30) == 0 {
					n.Clear(client)
					maps.DeleteFunc(b, func(g api.Gram, _ int) bool { return g.Client == client })
				}
			default:
				g := api.Gram{Client: client, Up: up, Seq: k}
				if n.Put(g) == api.OK {
					b[g]++
				}
			}
		}
		for g, ok := n.Eldest(); ok; g, ok = n.Eldest() {
			b.comes(t, g)
		}
		for g, k := range b {
			if k != 0 {
				t.Fatalf("%+v: %d didn't come", g, k)
			}
		}
	}
}

// heap is how many bytes are at hand that are still used.
func heap() int {
	runtime.GC()
	var m runtime.MemStats
	runtime.ReadMemStats(&m)
	return int(m.HeapAlloc)
}

// What isn't under way any more isn't kept.
func TestNothingIsKeptThatCame(t *testing.T) {
	n := mist.New()
	began := heap()
	for k := range 1500 {
		for i := range 4 {
			puts(t, n, gram(1+i, i%2 == 0, strings.Repeat(string(rune('a'+k%26)), 16384)), api.OK)
		}
		n.Eldest()
		n.Pick(4, false, 0)
		n.Clear(2)
		n.Clear(3)
	}
	if k := heap() - began; k > 4<<20 {
		t.Errorf("%d bytes are kept", k)
	}
	under(t, n)
}

// P1 of DOC.md

func TestCallsEndWhateverTheyAreGiven(t *testing.T) {
	for _, client := range wild {
		for _, at := range wild {
			n := netOf(t, gram(1, true, "a"), gram(1, true, "b"), gram(8, false, "c"))
			for _, up := range []bool{false, true} {
				n.Put(api.Gram{Client: client, Up: up, Epoch: at, Seq: at, Ack: at})
				n.Copy(client, up, at)
				n.Pick(client, up, at)
				n.Count(client, up)
			}
			n.Eldest()
			n.Clear(client)
			for range n.All() {
				n.Clear(at)
			}
		}
	}
}
