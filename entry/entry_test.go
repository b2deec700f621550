package entry_test

import (
	"math"
	"math/rand"
	"slices"
	"strings"
	"testing"

	"seneschal/api"
	"seneschal/entry"
	"seneschal/nib"
)

var one = api.Txn{Client: 1, Epoch: 1, N: 1}

func rec(s string) api.Slot {
	return api.Slot{Used: true, Data: s}
}

func many(n int) string {
	return strings.Repeat("x", n)
}

// kinds are entries that are good, one of each kind.
func kinds() []api.Entry {
	return []api.Entry{
		{Kind: api.Change, Txn: one, Lsn: 9, Prev: 4, Page: 7, Slot: 3, Was: rec("a"), Is: rec("bc")},
		{Kind: api.Undo, Txn: one, Lsn: 9, Prev: 4, Page: 7, Slot: 3, Was: rec("bc"), Is: rec("a"), Next: 2},
		{Kind: api.Commit, Txn: one, Lsn: 9, Prev: 4},
		{Kind: api.End, Txn: one, Lsn: 9, Prev: 4},
	}
}

// knownOf, slotOf and goodOf read the chapter's words plainly.
func knownOf(t api.Txn) bool {
	return t.Client >= 1 && t.Client <= 8 && t.Epoch >= 1 && t.Epoch <= 1<<30 && t.N >= 1 && t.N <= 1<<30
}

func slotOf(x api.Slot) bool {
	if x.Used {
		return len(x.Data) <= 200
	}
	return x.Data == ""
}

func goodOf(x api.Entry) bool {
	if !knownOf(x.Txn) || x.Lsn < 1 || x.Lsn > 1<<40 || x.Prev < 0 || x.Prev >= x.Lsn {
		return false
	}
	place := x.Page >= 0 && x.Page <= 1023 && x.Slot >= 0 && x.Slot <= 31 && slotOf(x.Was) && slotOf(x.Is)
	none := x.Page == 0 && x.Slot == 0 && x.Next == 0 && x.Was == (api.Slot{}) && x.Is == (api.Slot{})
	switch x.Kind {
	case 1:
		return place && x.Next == 0
	case 2:
		return place && x.Next >= 0 && x.Next <= x.Prev
	case 3, 4:
		return none
	}
	return false
}

func slotBytes(x api.Slot) string {
	if x.Used {
		return nib.Int(1) + nib.Str(x.Data)
	}
	return nib.Int(0)
}

// bytesOf writes a good entry plainly.
func bytesOf(x api.Entry) string {
	s := nib.Int(x.Kind) + nib.Int(x.Txn.Client) + nib.Int(x.Txn.Epoch) + nib.Int(x.Txn.N) + nib.Int(x.Lsn) + nib.Int(x.Prev)
	if x.Kind <= 2 {
		s += nib.Int(x.Page) + nib.Int(x.Slot) + nib.Int(x.Next) + slotBytes(x.Was) + slotBytes(x.Is)
	}
	return s
}

// entryOf reads bytes plainly: whatever they are parted into is the entry only if it is good and would be written so.
func entryOf(s string) (api.Entry, string, api.Errno) {
	rest := s
	number := func() int {
		n, behind, _ := nib.TakeInt(rest)
		rest = behind
		return n
	}
	slot := func() api.Slot {
		if number() == 0 {
			return api.Slot{}
		}
		data, behind, _ := nib.TakeStr(rest, len(rest))
		rest = behind
		return rec(data)
	}
	x := api.Entry{Kind: number(), Txn: api.Txn{Client: number(), Epoch: number(), N: number()}, Lsn: number(), Prev: number()}
	if x.Kind == 1 || x.Kind == 2 {
		x.Page, x.Slot, x.Next = number(), number(), number()
		x.Was, x.Is = slot(), slot()
	}
	if !goodOf(x) || bytesOf(x)+rest != s {
		return api.Entry{}, "", api.ErrForm
	}
	return x, rest, 0
}

// costOf counts the sectors' loads one by one.
func costOf(s string) int {
	cost := 1
	for left := len(s); left > 0; left -= 232 {
		cost++
	}
	return cost
}

// check holds all calls of a raw entry against the plain readings, and answers whether it is good.
func check(t *testing.T, x api.Entry) bool {
	t.Helper()
	good := goodOf(x)
	if entry.Good(x) != good {
		t.Fatalf("Good(%v): %v", x, entry.Good(x))
	}
	s, e := entry.Encode(x)
	if !good {
		if s != "" || e != api.ErrArg || entry.Cost(x) != 0 {
			t.Fatalf("%v: %x, %d, cost %d", x, s, e, entry.Cost(x))
		}
		return false
	}
	if s != bytesOf(x) || e != 0 {
		t.Fatalf("Encode(%v): %x, %d, wanted %x", x, s, e, bytesOf(x))
	}
	if cost := entry.Cost(x); cost != costOf(s) || cost < 2 || cost > 3 {
		t.Fatalf("Cost(%v): %d, though it has %d bytes", x, cost, len(s))
	}
	for _, rest := range []string{"", "\x00", "\x80", "\xff\xff", s, "rest"} {
		decode(t, s+rest, x, rest, 0)
	}
	return true
}

func decode(t *testing.T, s string, x api.Entry, rest string, e api.Errno) {
	t.Helper()
	if x2, rest2, e2 := entry.Decode(s); x2 != x || rest2 != rest || e2 != e {
		t.Fatalf("Decode(%x): %v, %x, %d, wanted %v, %x, %d", s, x2, rest2, e2, x, rest, e)
	}
}

func refuse(t *testing.T, s string) {
	t.Helper()
	decode(t, s, api.Entry{}, "", api.ErrForm)
}

// ends are whole numbers around all limits, and the ends of their type.
func ends() []int {
	list := []int{math.MinInt, math.MinInt + 1, math.MaxInt - 1, math.MaxInt, -1 << 40}
	for _, n := range []int{0, 8, 31, 1023, 1 << 30, 1 << 32, 1 << 40} {
		list = append(list, n-1, n, n+1, n+2)
	}
	return list
}

// numbersOf are the pointers to an entry's numbers.
func numbersOf(x *api.Entry) []*int {
	return []*int{&x.Kind, &x.Txn.Client, &x.Txn.Epoch, &x.Txn.N, &x.Lsn, &x.Prev, &x.Page, &x.Slot, &x.Next}
}

// chance is an entry that is good.
func chance(r *rand.Rand) api.Entry {
	slot := func() api.Slot {
		if r.Intn(3) == 0 {
			return api.Slot{}
		}
		b := make([]byte, r.Intn([]int{3, 70, 201}[r.Intn(3)]))
		for i := range b {
			b[i] = byte(r.Intn(256))
		}
		return rec(string(b))
	}
	x := api.Entry{
		Kind: 1 + r.Intn(4),
		Txn:  api.Txn{Client: 1 + r.Intn(8), Epoch: 1 + r.Intn(1<<r.Intn(31)), N: 1 + r.Intn(1<<r.Intn(31))},
		Lsn:  1 + r.Intn(1<<r.Intn(41)),
	}
	x.Prev = r.Intn(x.Lsn)
	if x.Kind <= 2 {
		x.Page, x.Slot, x.Was, x.Is = r.Intn(1024), r.Intn(32), slot(), slot()
	}
	if x.Kind == 2 {
		x.Next = r.Intn(x.Prev + 1)
	}
	return x
}

// P4.1

func TestKnown(t *testing.T) {
	for _, client := range ends() {
		for _, epoch := range ends() {
			for _, n := range ends() {
				name := api.Txn{Client: client, Epoch: epoch, N: n}
				if entry.Known(name) != knownOf(name) {
					t.Fatalf("Known(%v): %v", name, entry.Known(name))
				}
			}
		}
	}
	for _, c := range []struct {
		name api.Txn
		want bool
	}{
		{one, true},
		{api.Txn{Client: 8, Epoch: 1 << 30, N: 1 << 30}, true},
		{api.Txn{Client: 9, Epoch: 1, N: 1}, false},
		{api.Txn{Client: 1, Epoch: 1<<30 + 1, N: 1}, false},
		{api.Txn{Client: 1, Epoch: 1, N: 1<<30 + 1}, false},
		{api.Txn{Epoch: 1, N: 1}, false},
		{api.Txn{Client: 1, N: 1}, false},
		{api.Txn{Client: 1, Epoch: 1}, false},
		{api.Txn{}, false},
	} {
		if entry.Known(c.name) != c.want {
			t.Errorf("Known(%v): %v", c.name, !c.want)
		}
	}
}

func TestEncodeOfKnownEntries(t *testing.T) {
	for _, c := range []struct {
		x    api.Entry
		want string
	}{
		{api.Entry{Kind: api.Commit, Txn: one, Lsn: 5, Prev: 4}, "\x06\x02\x02\x02\x0a\x08"},
		{api.Entry{Kind: api.End, Txn: api.Txn{Client: 2, Epoch: 3, N: 4}, Lsn: 7, Prev: 6}, "\x08\x04\x06\x08\x0e\x0c"},
		{
			api.Entry{Kind: api.Change, Txn: api.Txn{Client: 2, Epoch: 3, N: 4}, Lsn: 7, Prev: 6, Page: 5, Slot: 1, Was: rec("old"), Is: rec("\x00")},
			"\x02\x04\x06\x08\x0e\x0c\x0a\x02\x00\x02\x06old\x02\x02\x00",
		},
		{
			api.Entry{Kind: api.Undo, Txn: api.Txn{Client: 2, Epoch: 3, N: 4}, Lsn: 7, Prev: 6, Page: 5, Slot: 1, Is: rec(""), Next: 4},
			"\x04\x04\x06\x08\x0e\x0c\x0a\x02\x08\x00\x02\x00",
		},
		{
			api.Entry{Kind: api.Undo, Txn: api.Txn{Client: 8, Epoch: 1 << 30, N: 1 << 30}, Lsn: 1 << 40, Prev: 1<<40 - 1, Page: 1023, Slot: 31, Next: 1<<40 - 1},
			"\x04\x10\x80\x80\x80\x80\x08\x80\x80\x80\x80\x08\x80\x80\x80\x80\x80\x40\xfe\xff\xff\xff\xff\x3f\xfe\x0f\x3e\xfe\xff\xff\xff\xff\x3f\x00\x00",
		},
	} {
		if s, e := entry.Encode(c.x); s != c.want || e != 0 {
			t.Errorf("Encode(%v): %x, %d, wanted %x", c.x, s, e, c.want)
		}
		check(t, c.x)
	}
}

func TestNumbersAtTheirEnds(t *testing.T) {
	good := 0
	for _, x := range kinds() {
		for i := range numbersOf(&x) {
			for _, n := range ends() {
				y := x
				*numbersOf(&y)[i] = n
				if check(t, y) {
					good++
				}
			}
		}
	}
	if good < 100 {
		t.Errorf("only %d were good", good)
	}
}

func TestOneLsnHangsOnTheOther(t *testing.T) {
	for _, x := range kinds() {
		for _, lsn := range ends() {
			for _, prev := range slices.Concat(ends(), []int{lsn - 1, lsn, lsn + 1}) {
				for _, next := range slices.Concat(ends(), []int{0, prev - 1, prev, prev + 1}) {
					x.Lsn, x.Prev, x.Next = lsn, prev, next
					check(t, x)
				}
			}
		}
	}
	x := kinds()[1]
	x.Lsn, x.Prev = 1, 0
	for next := -1; next <= 1; next++ {
		x.Next = next
		if check(t, x) != (next == 0) {
			t.Errorf("Next %d with Prev 0", next)
		}
	}
}

func TestSlotsOfEntries(t *testing.T) {
	for _, c := range []struct {
		x    api.Slot
		want bool
	}{
		{api.Slot{}, true},
		{rec(""), true},
		{rec("\x00\xff"), true},
		{rec(many(200)), true},
		{rec(many(201)), false},
		{rec(many(1 << 20)), false},
		{api.Slot{Data: "x"}, false},
		{api.Slot{Data: many(201)}, false},
	} {
		for _, x := range kinds() {
			want := c.want && (x.Kind <= 2 || c.x == api.Slot{})
			was, is := x, x
			was.Was, is.Is = c.x, c.x
			if check(t, was) != want || check(t, is) != want {
				t.Errorf("%d bytes of data, Used %v, in kind %d", len(c.x.Data), c.x.Used, x.Kind)
			}
			for _, place := range []int{0, 31} { // that no page has room for such a record there is told later
				is.Was, is.Slot = api.Slot{}, place
				check(t, is)
			}
		}
	}
}

func TestEndsOfTransactionsNameNoPlace(t *testing.T) {
	for _, x := range kinds()[2:] {
		for i, spoil := range []func(x *api.Entry){
			func(x *api.Entry) { x.Page = 1 },
			func(x *api.Entry) { x.Slot = 1 },
			func(x *api.Entry) { x.Next = 1 },
			func(x *api.Entry) { x.Was.Used = true },
			func(x *api.Entry) { x.Is.Used = true },
			func(x *api.Entry) { x.Was.Data = "x" },
			func(x *api.Entry) { x.Is.Data = "x" },
		} {
			y := x
			spoil(&y)
			if !check(t, x) || check(t, y) {
				t.Errorf("kind %d, spoilt by %d", x.Kind, i)
			}
		}
	}
}

func TestCostAtItsEdge(t *testing.T) {
	x := api.Entry{Kind: api.Change, Txn: one, Lsn: 1, Was: rec(many(100))}
	bare := len(bytesOf(x)) + 2 // a record of 64 bytes or more has two for their number, and it was one without
	for _, c := range []struct{ bytes, cost int }{{230, 2}, {231, 2}, {232, 2}, {233, 3}, {234, 3}} {
		x.Is = rec(many(c.bytes - bare))
		if n := len(bytesOf(x)); n != c.bytes || entry.Cost(x) != c.cost {
			t.Errorf("%d bytes: the cost %d, wanted %d of %d", n, entry.Cost(x), c.cost, c.bytes)
		}
	}
	for _, x := range kinds() {
		if entry.Cost(x) != 2 {
			t.Errorf("the cost of %v: %d", x, entry.Cost(x))
		}
	}
	longest := api.Entry{Kind: api.Undo, Txn: api.Txn{Client: 8, Epoch: 1 << 30, N: 1 << 30}, Lsn: 1 << 40, Prev: 1<<40 - 1, Page: 1023, Slot: 31, Was: rec(many(200)), Is: rec(many(200)), Next: 1<<40 - 1}
	if entry.Cost(longest) != 3 {
		t.Errorf("the cost of the longest: %d", entry.Cost(longest))
	}
	check(t, longest)
	for _, x := range []api.Entry{{}, {Kind: api.Commit}, {Kind: 5, Txn: one, Lsn: 1}} {
		if entry.Cost(x) != 0 {
			t.Errorf("the cost of %v: %d", x, entry.Cost(x))
		}
	}
}

func TestEntriesByChance(t *testing.T) {
	r := rand.New(rand.NewSource(1))
	numbers := ends()
	bad := 0
	for range 20000 {
		x := chance(r)
		if !check(t, x) {
			t.Fatalf("%v isn't good", x)
		}
		if i := r.Intn(11); i < 9 {
			*numbersOf(&x)[i] = numbers[r.Intn(len(numbers))]
		} else {
			*[]*api.Slot{&x.Was, &x.Is}[i-9] = []api.Slot{{}, rec(many(r.Intn(260))), {Data: "x"}}[r.Intn(3)]
		}
		if !check(t, x) {
			bad++
		}
	}
	if bad < 5000 || bad > 18000 {
		t.Errorf("%d were none", bad)
	}
}

// P4.2

func TestDecodeTellsTheRest(t *testing.T) {
	s := "\x06\x02\x02\x02\x0a\x08"
	x := api.Entry{Kind: api.Commit, Txn: one, Lsn: 5, Prev: 4}
	for _, rest := range []string{"", "\x00", "\x02\x00", "\x80", s, many(1000)} {
		decode(t, s+rest, x, rest, 0)
	}
}

func TestDecodeOfMany(t *testing.T) {
	r := rand.New(rand.NewSource(2))
	var list []api.Entry
	s := ""
	for range 300 {
		x := chance(r)
		list = append(list, x)
		s += bytesOf(x)
	}
	for i, want := range list {
		x, rest, e := entry.Decode(s)
		if x != want || e != 0 {
			t.Fatalf("entry %d: %v, %d, wanted %v", i, x, e, want)
		}
		s = rest
	}
	if s != "" {
		t.Errorf("behind the last one: %x", s)
	}
}

func TestDecodeCutOff(t *testing.T) {
	r := rand.New(rand.NewSource(3))
	list := kinds()
	for range 50 {
		list = append(list, chance(r))
	}
	for _, x := range list {
		s := bytesOf(x)
		for k := range len(s) {
			refuse(t, s[:k])
		}
	}
}

func TestDecodeOfNone(t *testing.T) {
	for _, s := range []string{
		"",
		"\x00\x02\x02\x02\x0a\x08", "\x01\x02\x02\x02\x0a\x08", "\x0a\x02\x02\x02\x0a\x08", // no such kind
		"\x00\x02\x02\x02\x0a\x08\x00\x00\x00\x00\x00", "\x0a\x02\x02\x02\x0a\x08\x00\x00\x00\x00\x00",
		"\x06\x00\x02\x02\x0a\x08", "\x06\x12\x02\x02\x0a\x08", "\x06\x01\x02\x02\x0a\x08", // no such client
		"\x06\x02\x00\x02\x0a\x08", "\x06\x02\x02\x00\x0a\x08", // no such epoch, no such number
		"\x06\x02\x82\x80\x80\x80\x08\x02\x0a\x08", "\x06\x02\x02\x82\x80\x80\x80\x08\x0a\x08",
		"\x06\x02\x02\x02\x00\x00", "\x06\x02\x02\x02\x82\x80\x80\x80\x80\x40\x00", // no such Lsn
		"\x06\x02\x02\x02\x0a\x0a", "\x06\x02\x02\x02\x0a\x01", // no such Prev
		"\x02\x02\x02\x02\x0a\x08\x80\x10\x00\x00\x00\x00", "\x02\x02\x02\x02\x0a\x08\x01\x00\x00\x00\x00", // no such page
		"\x02\x02\x02\x02\x0a\x08\x00\x40\x00\x00\x00", "\x02\x02\x02\x02\x0a\x08\x00\x01\x00\x00\x00", // no such slot
		"\x02\x02\x02\x02\x0a\x08\x00\x00\x02\x00\x00", "\x04\x02\x02\x02\x0a\x08\x00\x00\x0a\x00\x00", // no such Next
		"\x02\x02\x02\x02\x0a\x08\x00\x00\x00\x04\x00\x00", "\x02\x02\x02\x02\x0a\x08\x00\x00\x00\x01\x00", // neither Used nor not
		"\x02\x02\x02\x02\x0a\x08\x00\x00\x00\x00\x04\x00", "\x02\x02\x02\x02\x0a\x08\x00\x00\x00\x00\x01",
		"\x02\x02\x02\x02\x0a\x08\x00\x00\x00\x02\x92\x03" + many(201) + "\x00", // too long
		"\x02\x02\x02\x02\x0a\x08\x00\x00\x00\x00\x02\x92\x03" + many(201),
		"\x02\x02\x02\x02\x0a\x08\x00\x00\x00\x00\x02\x01",                                             // a length below 0
		"\x02\x02\x02\x02\x0a\x08\x00\x00\x00\x00\x02\x04x",                                            // not so much stands behind it
		"\x86\x00\x02\x02\x02\x0a\x08", "\x06\x82\x00\x02\x02\x0a\x08", "\x06\x02\x02\x02\x0a\x88\x00", // another form of a number
		strings.Repeat("\x80", 100), strings.Repeat("\xff", 100), strings.Repeat("\x00", 100), strings.Repeat("\x02", 100),
	} {
		if x, _, e := entryOf(s); e == 0 {
			t.Errorf("%x is %v, read plainly", s, x)
		}
		refuse(t, s)
		for _, rest := range []string{"\x00", "\x02\x00", many(9)} {
			x, behind, e := entryOf(s + rest)
			decode(t, s+rest, x, behind, e)
		}
	}
}

// P4.3

func TestEachByteChanged(t *testing.T) {
	r := rand.New(rand.NewSource(4))
	list := kinds()
	for range 60 {
		list = append(list, chance(r))
	}
	for _, x := range list {
		b := []byte(bytesOf(x) + "\x00\x02\x80")
		for i := range b {
			was := b[i]
			for v := range 256 {
				b[i] = byte(v)
				y, rest, e := entryOf(string(b))
				decode(t, string(b), y, rest, e)
			}
			b[i] = was
		}
	}
}

// Of P7 and P1, too: whatever bytes there are, the calls end, and what is read would have been written so.
func TestWhatIsReadWouldBeWrittenSo(t *testing.T) {
	r := rand.New(rand.NewSource(5))
	found := 0
	for range 300000 {
		b := make([]byte, r.Intn(24))
		for i := range b {
			b[i] = byte(2 * r.Intn(5))
			if r.Intn(12) == 0 {
				b[i] = byte(r.Intn(256))
			}
		}
		s := string(b)
		x, rest, e := entryOf(s)
		decode(t, s, x, rest, e)
		if e == 0 {
			found++
			if s2, e := entry.Encode(x); e != 0 || s2+rest != s {
				t.Fatalf("%v, read from %x, is written %x, %d", x, s, s2, e)
			}
		}
	}
	if found < 1000 {
		t.Errorf("only %d were entries", found)
	}
}

func TestNoEntryBeginsWithAnother(t *testing.T) {
	r := rand.New(rand.NewSource(6))
	written := map[string]api.Entry{}
	for range 5000 {
		x := chance(r)
		s, _ := entry.Encode(x)
		if other, ok := written[s]; ok && other != x {
			t.Fatalf("%v and %v are both %x", x, other, s)
		}
		written[s] = x
	}
	for s, x := range written {
		for k := range len(s) {
			if other, ok := written[s[:k]]; ok {
				t.Fatalf("%v begins with %v", x, other)
			}
		}
	}
}
