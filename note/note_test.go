package note_test

import (
	"math"
	"math/rand"
	"slices"
	"strings"
	"testing"

	"seneschal/api"
	"seneschal/entry"
	"seneschal/nib"
	"seneschal/note"
	"seneschal/slab"
)

var (
	one    = api.Txn{Client: 2, Epoch: 1, N: 3}
	row    = api.Page{Lsn: 9, Slots: []api.Slot{{Used: true, Data: "row"}}}
	commit = api.Entry{Kind: api.Commit, Txn: one, Lsn: 4, Prev: 2}
	change = api.Entry{Kind: api.Change, Txn: one, Lsn: 9, Prev: 4, Page: 7, Slot: 3, Was: rec("a"), Is: rec("bc")}
)

const (
	commitBytes = "\x06\x04\x02\x06\x08\x04"
	changeBytes = "\x02\x04\x02\x06\x12\x08\x0e\x06\x00\x02\x02a\x02\x04bc"
)

func rec(s string) api.Slot {
	return api.Slot{Used: true, Data: s}
}

// rowBytes are row's.
func rowBytes() string {
	s := "\x00\x00\x00\x00\x00\x00\x00\x09\x01\x03row"
	return s + strings.Repeat("\x00", 240-len(s))
}

type written struct {
	m    api.Msg
	body string
}

// rows are good messages of each kind, with their bodies.
func rows() []written {
	return []written{
		{api.Msg{Kind: api.MsgLock}, "\x02\x00\x00\x00"},
		{api.Msg{Kind: api.MsgLock, Page: 1023, X: true}, "\x02\xfe\x0f\x02\x00"},
		{api.Msg{Kind: api.MsgLock, Page: 63, Need: true}, "\x02\x7e\x00\x02"},
		{api.Msg{Kind: api.MsgLock, Page: 64, X: true, Need: true}, "\x02\x80\x01\x02\x02"},
		{api.Msg{Kind: api.MsgFree, Page: 1}, "\x04\x02\x00"},
		{api.Msg{Kind: api.MsgFree, Page: 2, X: true}, "\x04\x04\x02"},
		{api.Msg{Kind: api.MsgInUse, Page: 1}, "\x06\x02"},
		{api.Msg{Kind: api.MsgInUse}, "\x06\x00"},
		{api.Msg{Kind: api.MsgLog, Entries: []api.Entry{commit}}, "\x08\x02" + commitBytes},
		{api.Msg{Kind: api.MsgLog, Entries: []api.Entry{change, commit, change}}, "\x08\x06" + changeBytes + commitBytes + changeBytes},
		{api.Msg{Kind: api.MsgLog, Entries: slices.Repeat([]api.Entry{commit}, 16)}, "\x08\x20" + strings.Repeat(commitBytes, 16)},
		{api.Msg{Kind: api.MsgImage, Page: 2, Image: row}, "\x0a\x04" + rowBytes()},
		{api.Msg{Kind: api.MsgImage}, "\x0a\x00" + strings.Repeat("\x00", 240)},
		{api.Msg{Kind: api.MsgCommit, Txn: one}, "\x0c\x04\x02\x06"},
		{api.Msg{Kind: api.MsgSpace, N: 1}, "\x0e\x02"},
		{api.Msg{Kind: api.MsgSpace, N: 5}, "\x0e\x0a"},
		{api.Msg{Kind: api.MsgSpare, N: 1 << 20}, "\x10\x80\x80\x80\x01"},
		{api.Msg{Kind: api.MsgGrant, Page: 2}, "\x12\x04\x00\x00"},
		{api.Msg{Kind: api.MsgGrant, Page: 2, X: true}, "\x12\x04\x02\x00"},
		{api.Msg{Kind: api.MsgGrant, Page: 2, Need: true}, "\x12\x04\x00\x02" + strings.Repeat("\x00", 240)},
		{api.Msg{Kind: api.MsgGrant, Page: 2, X: true, Need: true, Image: row}, "\x12\x04\x02\x02" + rowBytes()},
		{api.Msg{Kind: api.MsgCall}, "\x14\x00\x00"},
		{api.Msg{Kind: api.MsgCall, Page: 1, X: true}, "\x14\x02\x02"},
		{api.Msg{Kind: api.MsgSure, Txn: api.Txn{Client: 8, Epoch: 1 << 30, N: 1 << 30}}, "\x16\x10\x80\x80\x80\x80\x08\x80\x80\x80\x80\x08"},
		{api.Msg{Kind: api.MsgVictim}, "\x18"},
		{api.Msg{Kind: api.MsgRoom}, "\x1a\x00"},
		{api.Msg{Kind: api.MsgRoom, N: 64}, "\x1a\x80\x01"},
		{api.Msg{Kind: api.MsgRoom, N: 1 << 20}, "\x1a\x80\x80\x80\x01"},
	}
}

// numbersOf are the pointers to a message's numbers.
func numbersOf(m *api.Msg) []*int {
	return []*int{&m.Kind, &m.Page, &m.N, &m.Txn.Client, &m.Txn.Epoch, &m.Txn.N, &m.Image.Lsn}
}

// ends are whole numbers around all limits, and the ends of their type.
func ends() []int {
	list := []int{math.MinInt, math.MinInt + 1, math.MaxInt - 1, math.MaxInt, -1 << 20, 1 << 32, 2, 16}
	for _, n := range []int{0, 8, 13, 1023, 1 << 20, 1 << 30, 1 << 40} {
		list = append(list, n-1, n, n+1)
	}
	return list
}

// spoils each put something into one field.
func spoils() []func(m *api.Msg) {
	return []func(m *api.Msg){
		func(m *api.Msg) { m.Page = 1 },
		func(m *api.Msg) { m.X = true },
		func(m *api.Msg) { m.Need = true },
		func(m *api.Msg) { m.N = 1 },
		func(m *api.Msg) { m.Txn = one },
		func(m *api.Msg) { m.Txn.Client = 1 },
		func(m *api.Msg) { m.Txn.Epoch = 1 },
		func(m *api.Msg) { m.Txn.N = 1 },
		func(m *api.Msg) { m.Image = row },
		func(m *api.Msg) { m.Image = api.Page{Lsn: 1} },
		func(m *api.Msg) { m.Image = api.Page{Slots: row.Slots} },
		func(m *api.Msg) { m.Image = api.Page{Slots: make([]api.Slot, 1)} },
		func(m *api.Msg) { m.Entries = []api.Entry{commit} },
		func(m *api.Msg) { m.Entries = make([]api.Entry, 1) },
	}
}

// badImages are images that aren't good, one for each of layer 3's words.
func badImages() []api.Page {
	return []api.Page{
		{Lsn: -1},
		{Lsn: 1<<40 + 1},
		{Lsn: math.MinInt},
		{Lsn: math.MaxInt},
		{Slots: []api.Slot{{}}},
		{Slots: []api.Slot{rec("a"), {}}},
		{Slots: []api.Slot{{Data: "a"}, rec("b")}},
		{Slots: []api.Slot{rec(strings.Repeat("x", 201))}},
		{Slots: []api.Slot{rec(strings.Repeat("x", 200)), rec(strings.Repeat("x", 30))}},
		{Slots: slices.Repeat([]api.Slot{rec("")}, 33)},
	}
}

// badEntries are none.
func badEntries() []api.Entry {
	list := []api.Entry{{}, {Kind: api.Commit}}
	for _, spoil := range []func(x *api.Entry){
		func(x *api.Entry) { x.Kind = 0 },
		func(x *api.Entry) { x.Kind = 5 },
		func(x *api.Entry) { x.Txn.Client = 9 },
		func(x *api.Entry) { x.Lsn = 1<<40 + 1 },
		func(x *api.Entry) { x.Prev = x.Lsn },
		func(x *api.Entry) { x.Page = 1024 },
		func(x *api.Entry) { x.Slot = 32 },
		func(x *api.Entry) { x.Next = 1 },
		func(x *api.Entry) { x.Was = api.Slot{Data: "a"} },
		func(x *api.Entry) { x.Is = rec(strings.Repeat("x", 201)) },
	} {
		x := change
		spoil(&x)
		list = append(list, x)
	}
	return list
}

// P11.1

func TestEncodeOfKnownMessages(t *testing.T) {
	for _, c := range rows() {
		if !check(t, c.m) {
			t.Errorf("%v isn't good", c.m)
		}
		if s, e := note.Encode(c.m); s != framed(c.body) || e != 0 {
			t.Errorf("Encode(%v): %x, %d, wanted the body %x", c.m, s, e, c.body)
		}
	}
	if s, e := note.Encode(api.Msg{Kind: api.MsgVictim}); s != "\xc1\x6e\x77\xdb\x18" || e != 0 {
		t.Errorf("%x, %d", s, e)
	}
}

func TestNumbersAtTheirEnds(t *testing.T) {
	good := 0
	for _, c := range rows() {
		for i := range numbersOf(&c.m) {
			for _, n := range ends() {
				m := c.m
				*numbersOf(&m)[i] = n
				if check(t, m) {
					good++
				}
			}
		}
	}
	if good < 300 {
		t.Errorf("only %d were good", good)
	}
}

func TestLimits(t *testing.T) {
	for _, c := range []struct {
		m    api.Msg
		want bool
	}{
		{api.Msg{}, false},
		{api.Msg{Kind: 14}, false},
		{api.Msg{Kind: -1}, false},
		{api.Msg{Kind: api.MsgCall, Page: -1}, false},
		{api.Msg{Kind: api.MsgCall, Page: 0}, true},
		{api.Msg{Kind: api.MsgCall, Page: 1023}, true},
		{api.Msg{Kind: api.MsgCall, Page: 1024}, false},
		{api.Msg{Kind: api.MsgSpace, N: -1}, false},
		{api.Msg{Kind: api.MsgSpace, N: 0}, false},
		{api.Msg{Kind: api.MsgSpace, N: 1}, true},
		{api.Msg{Kind: api.MsgSpace, N: 1 << 20}, true},
		{api.Msg{Kind: api.MsgSpace, N: 1<<20 + 1}, false},
		{api.Msg{Kind: api.MsgSpare, N: 0}, false},
		{api.Msg{Kind: api.MsgSpare, N: 1}, true},
		{api.Msg{Kind: api.MsgSpare, N: 1 << 20}, true},
		{api.Msg{Kind: api.MsgSpare, N: 1<<20 + 1}, false},
		{api.Msg{Kind: api.MsgRoom, N: -1}, false},
		{api.Msg{Kind: api.MsgRoom, N: 0}, true},
		{api.Msg{Kind: api.MsgRoom, N: 1 << 20}, true},
		{api.Msg{Kind: api.MsgRoom, N: 1<<20 + 1}, false},
		{api.Msg{Kind: api.MsgCommit, Txn: api.Txn{Client: 8, Epoch: 1 << 30, N: 1 << 30}}, true},
		{api.Msg{Kind: api.MsgCommit, Txn: api.Txn{Client: 9, Epoch: 1, N: 1}}, false},
		{api.Msg{Kind: api.MsgCommit, Txn: api.Txn{Client: 1, Epoch: 1}}, false},
		{api.Msg{Kind: api.MsgSure}, false},
	} {
		if check(t, c.m) != c.want {
			t.Errorf("%v: wanted %v", c.m, c.want)
		}
	}
}

func TestNoFieldTooMany(t *testing.T) {
	for _, c := range rows() {
		for i, spoil := range spoils() {
			m := c.m
			spoil(&m)
			check(t, m)
			if m.Kind == api.MsgVictim && note.Good(m) {
				t.Errorf("MsgVictim spoilt by %d", i)
			}
			for _, kind := range []int{math.MinInt, -1, 0, 14, math.MaxInt} {
				m.Kind = kind
				if check(t, m) {
					t.Errorf("kind %d spoilt by %d", kind, i)
				}
			}
		}
	}
}

func TestAGrantHasItsImageWithNeed(t *testing.T) {
	for _, c := range []struct {
		m    api.Msg
		want bool
	}{
		{api.Msg{Kind: api.MsgGrant, Image: row}, false},
		{api.Msg{Kind: api.MsgGrant, X: true, Image: row}, false},
		{api.Msg{Kind: api.MsgGrant, Need: true, Image: row}, true},
		{api.Msg{Kind: api.MsgGrant, Need: true}, true},
		{api.Msg{Kind: api.MsgGrant, Need: true, Image: api.Page{Lsn: -1}}, false},
		{api.Msg{Kind: api.MsgLock, Need: true, Image: row}, false},
		{api.Msg{Kind: api.MsgLock, Need: true}, true},
		{api.Msg{Kind: api.MsgImage, Need: true, Image: row}, false},
	} {
		if check(t, c.m) != c.want {
			t.Errorf("%v: wanted %v", c.m, c.want)
		}
	}
}

func TestImagesOfMessages(t *testing.T) {
	for _, m := range []api.Msg{{Kind: api.MsgImage, Page: 5}, {Kind: api.MsgGrant, Page: 5, Need: true}} {
		for i, p := range badImages() {
			m.Image = p
			if check(t, m) {
				t.Errorf("kind %d: the image %d is good", m.Kind, i)
			}
		}
		for _, p := range []api.Page{{}, {Lsn: 1 << 40}, row, {Slots: []api.Slot{{}, rec("")}}, {Slots: []api.Slot{rec(strings.Repeat("x", 200)), rec(strings.Repeat("x", 29))}}, {Slots: slices.Repeat([]api.Slot{rec("")}, 32)}} {
			m.Image = p
			if !check(t, m) {
				t.Errorf("kind %d: the image %v isn't good", m.Kind, p)
			}
		}
	}
}

func TestEntriesOfMessages(t *testing.T) {
	for n := range 40 {
		m := api.Msg{Kind: api.MsgLog, Entries: slices.Repeat([]api.Entry{change}, n)}
		if check(t, m) != (n >= 1 && n <= 16) {
			t.Errorf("%d entries", n)
		}
		if n == 0 || n > 16 {
			continue
		}
		for at := range n {
			for _, x := range badEntries() {
				m.Entries[at] = x
				if check(t, m) {
					t.Errorf("%d entries, that at %d is none: %v", n, at, x)
				}
			}
			m.Entries[at] = change
		}
	}
	if check(t, api.Msg{Kind: api.MsgLog, Entries: slices.Repeat([]api.Entry{commit}, 1<<20)}) {
		t.Error("2^20 entries")
	}
	longest := api.Entry{Kind: api.Undo, Txn: api.Txn{Client: 8, Epoch: 1 << 30, N: 1 << 30}, Lsn: 1 << 40, Prev: 1<<40 - 1, Page: 1023, Slot: 31, Was: rec(strings.Repeat("x", 200)), Is: rec(strings.Repeat("y", 200)), Next: 1<<40 - 1}
	m := api.Msg{Kind: api.MsgLog, Entries: slices.Repeat([]api.Entry{longest}, 16)}
	check(t, m)
	if s, _ := note.Encode(m); len(s) == 0 || len(s) > api.MaxNote {
		t.Errorf("the longest message has %d bytes", len(s))
	}
}

func TestListsThatHoldNothing(t *testing.T) {
	for _, c := range rows() {
		if len(c.m.Image.Slots) > 0 || len(c.m.Entries) > 0 {
			continue
		}
		m := c.m
		m.Image.Slots, m.Entries = []api.Slot{}, []api.Entry{}
		if !check(t, m) {
			t.Errorf("%v isn't good", m)
		}
		m.Image.Slots, m.Entries = row.Slots[:0], make([]api.Entry, 0, 9)
		if s, e := note.Encode(m); s != framed(c.body) || e != 0 {
			t.Errorf("%v: %x, %d", m, s, e)
		}
	}
	if check(t, api.Msg{Kind: api.MsgLog, Entries: []api.Entry{}}) {
		t.Error("no entries")
	}
}

func TestMessagesByChance(t *testing.T) {
	r := rand.New(rand.NewSource(1))
	numbers, faults := ends(), spoils()
	bad := 0
	for range 20000 {
		m := chance(r)
		if !check(t, m) {
			t.Fatalf("%v isn't good", m)
		}
		if i := r.Intn(14); i < 7 {
			*numbersOf(&m)[i] = numbers[r.Intn(len(numbers))]
		} else {
			faults[r.Intn(len(faults))](&m)
		}
		if !check(t, m) {
			bad++
		}
	}
	if bad < 8000 || bad > 19000 {
		t.Errorf("%d weren't good", bad)
	}
}

// P11.2

func TestDecodeOfKnownMessages(t *testing.T) {
	for _, c := range rows() {
		if m, e := note.Decode(framed(c.body)); e != 0 || !same(m, c.m) {
			t.Errorf("Decode of the body %x: %v, %d", c.body, m, e)
		}
	}
}

func TestDecodeOfTooFewBytes(t *testing.T) {
	for _, s := range []string{"", "\x00", "\x18", "abc", "\x00\x00\x00", "\xff\xff\xff"} {
		if m, e := note.Decode(s); e != api.ErrShort || !isZero(m) {
			t.Errorf("Decode(%x): %v, %d", s, m, e)
		}
	}
	if m, e := note.Decode("\x00\x00\x00\x00"); e != api.ErrForm || !isZero(m) { // the check of nothing is 0
		t.Errorf("%v, %d", m, e)
	}
	if m, e := note.Decode("abcd"); e != api.ErrSum || !isZero(m) {
		t.Errorf("%v, %d", m, e)
	}
}

func TestDecodeAsksTheCheckFirst(t *testing.T) {
	for _, body := range []string{"", "\x00", "\x18", "\x1c", "\x18\x00", "\x80\x00", "\x02\x00\x04\x00", "\x02\x80\x10\x00\x00", "rubbish"} {
		s := framed(body)
		for i := range 32 {
			b := []byte(s)
			b[i/8] ^= 1 << (i % 8)
			if e := decode(t, string(b)); e != api.ErrSum {
				t.Errorf("%x: %d", b, e)
			}
		}
	}
	for _, c := range rows() {
		s := framed(c.body)
		for i := range 32 {
			b := []byte(s)
			b[i/8] ^= 1 << (i % 8)
			if e := decode(t, string(b)); e != api.ErrSum {
				t.Errorf("%x: %d", b, e)
			}
		}
		for cut := range len(s) {
			want := api.ErrSum
			if cut < 4 {
				want = api.ErrShort
			}
			if e := decode(t, s[:cut]); e != want {
				t.Errorf("%x: %d", s[:cut], e)
			}
		}
		lowestFirst := []byte(s)
		slices.Reverse(lowestFirst[:4])
		for _, wrong := range []string{string(lowestFirst), s + "\x00", "\x00" + s, s + s, s[4:] + s[:4], "\x00\x00\x00\x00" + c.body, "\xff\xff\xff\xff" + c.body} {
			if e := decode(t, wrong); e != api.ErrSum {
				t.Errorf("%x: %d", wrong, e)
			}
		}
	}
}

func TestDecodeOfCutAndOfLongerBodies(t *testing.T) {
	for _, c := range rows() {
		for cut := range len(c.body) {
			refuse(t, c.body[:cut])
		}
		for _, more := range []string{"\x00", "\x02", "\x80", "\xff", c.body, rowBytes(), commitBytes, strings.Repeat("x", 1000)} {
			refuse(t, c.body+more)
			decode(t, framed(more[:1]+c.body)) // a kind ahead of it may make another message of it
		}
	}
}

func TestDecodeOfEachOtherByte(t *testing.T) {
	read := 0
	for _, c := range rows() {
		for at := range len(c.body) {
			for b := range 256 {
				s := c.body[:at] + string([]byte{byte(b)}) + c.body[at+1:]
				if decode(t, framed(s)) == 0 {
					read++
				}
			}
		}
	}
	if read < 5000 {
		t.Errorf("only %d were messages", read)
	}
}

func TestDecodeOfWrongNumbers(t *testing.T) {
	for _, n := range ends() {
		s := nib.Int(n)
		for _, body := range []string{s, s + "\x00", s + "\x00\x00", "\x06" + s, "\x14" + s + "\x00", "\x14\x00" + s, "\x02\x00\x00" + s, "\x12\x00\x00" + s, "\x0e" + s, "\x10" + s, "\x1a" + s, "\x0c" + s + "\x02\x02", "\x16\x02" + s + "\x02", "\x0c\x02\x02" + s, "\x12\x00\x00" + s + rowBytes(), "\x0a" + s + rowBytes()} {
			decode(t, framed(body))
		}
		for have := range 20 {
			want := api.ErrForm
			if n == have && n >= 1 && n <= 16 {
				want = 0
			}
			if e := decode(t, framed("\x08"+s+strings.Repeat(commitBytes, have))); e != want {
				t.Errorf("%d entries told, %d there: %d", n, have, e)
			}
		}
	}
	for n := range 40 {
		s := nib.Int(n)
		if e := decode(t, framed("\x08"+s+strings.Repeat(changeBytes, n))); (e == 0) != (n >= 1 && n <= 16) || e != 0 && e != api.ErrForm {
			t.Errorf("%d entries: %d", n, e)
		}
	}
}

func TestDecodeOfFlags(t *testing.T) {
	for _, n := range []int{-2, -1, 0, 1, 2, 3, 1 << 30, math.MinInt, math.MaxInt} {
		for _, c := range []struct{ head, tail string }{{"\x02\x02", "\x00"}, {"\x02\x02\x00", ""}, {"\x04\x02", ""}, {"\x12\x02", "\x00"}, {"\x12\x02", "\x02" + rowBytes()}, {"\x14\x02", ""}} {
			e := decode(t, framed(c.head+nib.Int(n)+c.tail))
			if want := n == 0 || n == 1; (e == 0) != want || e != 0 && e != api.ErrForm {
				t.Errorf("%x, %d, %x: %d", c.head, n, c.tail, e)
			}
		}
	}
	refuse(t, "\x12\x02\x00\x00"+rowBytes())
	refuse(t, "\x12\x02\x00\x02")
	refuse(t, "\x12\x02\x00\x04"+rowBytes())
	refuse(t, "\x02\x02\x00\x02"+rowBytes())
}

func TestDecodeOfWrongImages(t *testing.T) {
	image := rowBytes()
	for _, head := range []string{"\x0a\x04", "\x12\x04\x00\x02"} {
		for _, s := range []string{"", image[:239], image + "\x00", "\x01" + image[1:], image[:8] + "\x00" + image[9:], image[:8] + "\x02" + image[9:13] + "\xff" + image[14:], image[:8] + "\x21" + image[9:], image[:239] + "\x01", strings.Repeat("\xff", 240)} {
			refuse(t, head+s)
		}
	}
}

func TestDecodeOfWrongEntries(t *testing.T) {
	for _, s := range []string{
		commitBytes[:5],
		"\x0a" + commitBytes[1:],
		"\x00" + commitBytes[1:],
		commitBytes[:1] + "\x12" + commitBytes[2:],
		commitBytes[:5] + "\x08",
		changeBytes[:8] + "\x02" + changeBytes[9:],
		changeBytes[:9] + "\x04" + changeBytes[10:],
		changeBytes[:6] + "\x80\x10" + changeBytes[7:],
		changeBytes[:12] + "\x02\x92\x03" + strings.Repeat("x", 201),
	} {
		if _, _, e := entry.Decode(s); e != api.ErrForm {
			t.Fatalf("%x is an entry", s)
		}
		refuse(t, "\x08\x02"+s)
		refuse(t, "\x08\x04"+commitBytes+s)
		refuse(t, "\x08\x04"+s+commitBytes)
		refuse(t, "\x08\x06"+commitBytes+s+changeBytes)
	}
}

func TestDecodeOfNumbersInALongerForm(t *testing.T) {
	for _, body := range []string{
		"\x98\x00",
		"\x86\x00\x02",
		"\x06\x82\x00",
		"\x14\x02\x82\x00",
		"\x14\x02\x80\x00",
		"\x02\x02\x00\x82\x00",
		"\x0e\x8a\x00",
		"\x0c\x84\x00\x02\x06",
		"\x08\x82\x00" + commitBytes,
		"\x0e\x80\x80\x80\x81\x00",
		"\x0e\x82\x80\x80\x80\x80\x80\x80\x80\x80\x02",
		"\x0e\x80\x80\x80\x80\x80\x80\x80\x80\x80\x80\x01",
	} {
		refuse(t, body)
	}
}

// P11.3

func TestFourBytesInThePlaceOfOthers(t *testing.T) {
	r := rand.New(rand.NewSource(2))
	for _, c := range rows() {
		s := framed(c.body)
		for at := 4; at < len(s); at++ {
			for range 50 {
				b := []byte(s)
				for i := at; i < min(at+4, len(b)); i++ {
					b[i] = byte(r.Intn(256))
				}
				if string(b) == s {
					continue
				}
				if m, e := note.Decode(string(b)); e != api.ErrSum || !isZero(m) {
					t.Fatalf("%x for %x: %v, %d", b, s, m, e)
				}
			}
		}
	}
}

func TestFourBytesOfGoodBodiesInThePlaceOfOthers(t *testing.T) {
	bodies := map[string]bool{}
	for page := range 40 {
		for flags := range 4 {
			m := api.Msg{Kind: api.MsgLock, Page: page, X: flags&1 > 0, Need: flags&2 > 0}
			s, e := note.Encode(m)
			if e != 0 {
				t.Fatal(m, e)
			}
			bodies[s[4:]] = true
		}
	}
	s, _ := note.Encode(api.Msg{Kind: api.MsgLock})
	for body := range bodies {
		if body == s[4:] {
			continue
		}
		if m, e := note.Decode(s[:4] + body); e != api.ErrSum || !isZero(m) {
			t.Errorf("%x: %v, %d", body, m, e)
		}
	}
}

func TestAMessageHasOneForm(t *testing.T) {
	r := rand.New(rand.NewSource(3))
	read := 0
	for range 20000 {
		m := chance(r)
		s, e := note.Encode(m)
		if e != 0 {
			t.Fatal(m, e)
		}
		b := []byte(s[4:])
		for range 1 + r.Intn(2) {
			switch at := r.Intn(len(b)); r.Intn(4) {
			case 0:
				b = slices.Delete(b, at, at+1)
			case 1:
				b = slices.Insert(b, at, byte(r.Intn(256)))
			default:
				b[at] = byte(r.Intn(256)) >> r.Intn(8)
			}
			if len(b) == 0 {
				break
			}
		}
		other := framed(string(b))
		if decode(t, other) != 0 {
			continue
		}
		read++
		m2, _ := note.Decode(other)
		if again, e := note.Encode(m2); again != other || e != 0 {
			t.Fatalf("%x is written %x, %d", other, again, e)
		}
		if same(m, m2) != (s == other) {
			t.Fatalf("%x and %x", s, other)
		}
	}
	if read < 1000 {
		t.Errorf("only %d were messages", read)
	}
}

func TestUnlikeMessagesAreWrittenUnlike(t *testing.T) {
	r := rand.New(rand.NewSource(4))
	seen := map[string]api.Msg{}
	for range 5000 {
		m := chance(r)
		s, _ := note.Encode(m)
		if m2, ok := seen[s]; ok && !same(m, m2) {
			t.Fatalf("%v and %v are both %x", m, m2, s)
		}
		seen[s] = m
	}
}

func TestAnswersAreNewMemory(t *testing.T) {
	s := framed("\x08\x06" + changeBytes + commitBytes + changeBytes)
	m, _ := note.Decode(s)
	o, _ := note.Decode(s)
	for i := range m.Entries[:cap(m.Entries)] {
		m.Entries[:cap(m.Entries)][i] = api.Entry{Kind: 9}
	}
	if !slices.Equal(o.Entries, []api.Entry{change, commit, change}) {
		t.Errorf("%v", o.Entries)
	}
	s = framed("\x12\x04\x00\x02" + rowBytes())
	m, _ = note.Decode(s)
	o, _ = note.Decode(s)
	for i := range m.Image.Slots[:cap(m.Image.Slots)] {
		m.Image.Slots[:cap(m.Image.Slots)][i] = rec("other")
	}
	again, e := note.Decode(s)
	if !slices.Equal(o.Image.Slots, row.Slots) || !slices.Equal(again.Image.Slots, row.Slots) || e != 0 {
		t.Errorf("%v, %v, %d", o.Image, again.Image, e)
	}
}

func TestArgumentsStayAsTheyAre(t *testing.T) {
	whole := []api.Entry{change, commit, change, {Kind: 77}, {Kind: 78}}
	slots := []api.Slot{rec("a"), {}, rec("c"), {Data: "spare"}, {Data: "spare"}}
	wholeBefore, slotsBefore := slices.Clone(whole), slices.Clone(slots)
	for _, m := range []api.Msg{
		{Kind: api.MsgLog, Entries: whole[:3]},
		{Kind: api.MsgLog, Entries: whole[:4]},
		{Kind: api.MsgImage, Image: api.Page{Slots: slots[:3]}},
		{Kind: api.MsgGrant, Need: true, Image: api.Page{Slots: slots[:3]}},
		{Kind: api.MsgGrant, Need: true, Image: api.Page{Slots: slots[:4]}},
		{Kind: api.MsgVictim, Image: api.Page{Slots: slots[:0]}, Entries: whole[:0]},
	} {
		first, _ := note.Encode(m)
		note.Good(m)
		if second, _ := note.Encode(m); first != second {
			t.Errorf("%v: %x, then %x", m, first, second)
		}
		check(t, m)
		if !slices.Equal(whole, wholeBefore) || !slices.Equal(slots, slotsBefore) {
			t.Fatalf("%v, %v", whole, slots)
		}
	}
}

// P1 of DOC.md

func TestCallsEndWhateverTheyAreGiven(t *testing.T) {
	r := rand.New(rand.NewSource(5))
	numbers, images, entries := ends(), badImages(), badEntries()
	for range 20000 {
		m := api.Msg{X: r.Intn(2) == 0, Need: r.Intn(2) == 0}
		for _, p := range numbersOf(&m) {
			*p = numbers[r.Intn(len(numbers))]
		}
		if r.Intn(2) == 0 {
			m.Kind = r.Intn(15)
		}
		if r.Intn(2) == 0 {
			m.Image = images[r.Intn(len(images))]
		}
		for range r.Intn(3) {
			m.Entries = append(m.Entries, entries[r.Intn(len(entries))])
		}
		check(t, m)
	}
	for range 100000 {
		s := chanceText(r, 20)
		decode(t, s)
		decode(t, framed(s))
		decode(t, framed(nib.Int(r.Intn(15))+s))
	}
	for range 1000 {
		b := []byte(chanceText(r, 600))
		for i := range b {
			b[i] >>= r.Intn(8)
		}
		decode(t, framed(nib.Int(r.Intn(15))+string(b)))
		decode(t, framed("\x0a\x02"+string(b)))
		decode(t, framed("\x08\x02"+string(b)))
	}
	long := strings.Repeat("\x02", 1<<22)
	for _, body := range []string{long, "\x08" + long, "\x08" + nib.Int(math.MaxInt) + long, "\x08" + nib.Int(1<<31) + strings.Repeat(commitBytes, 1<<16), "\x0a\x02" + long} {
		refuse(t, body)
	}
}

func TestTheImageOfAGrantIsLayerThreesBytes(t *testing.T) {
	r := rand.New(rand.NewSource(6))
	for range 300 {
		p := chancePage(r)
		image, _ := slab.Encode(p)
		for head, m := range map[string]api.Msg{"\x0a\x02": {Kind: api.MsgImage, Page: 1, Image: p}, "\x12\x02\x02\x02": {Kind: api.MsgGrant, Page: 1, X: true, Need: true, Image: p}} {
			if s, e := note.Encode(m); s != framed(head+image) || e != 0 {
				t.Fatalf("Encode(%v): %x, %d", m, s, e)
			}
		}
	}
}
