package slab_test

import (
	"iter"
	"maps"
	"math"
	"math/rand"
	"slices"
	"strings"
	"testing"

	"seneschal/api"
	"seneschal/slab"
)

func rec(s string) api.Slot {
	return api.Slot{Used: true, Data: s}
}

func many(n int) string {
	return strings.Repeat("x", n)
}

func page(lsn int, slots ...api.Slot) api.Page {
	return api.Page{Lsn: lsn, Slots: slots}
}

// all answers a page whose 32 slots are all Used, with nothing in them.
func all() api.Page {
	return page(7, slices.Repeat([]api.Slot{rec("")}, 32)...)
}

func same(p, q api.Page) bool {
	return p.Lsn == q.Lsn && slices.Equal(p.Slots, q.Slots)
}

// goodOf reads the chapter's word plainly.
func goodOf(p api.Page) bool {
	if p.Lsn < 0 || p.Lsn > 1<<40 || len(p.Slots) > 32 {
		return false
	}
	for i, x := range p.Slots {
		if !x.Used && (len(x.Data) > 0 || i == len(p.Slots)-1) || len(x.Data) > 200 {
			return false
		}
	}
	return sizeOf(p) <= 240
}

func sizeOf(p api.Page) int {
	size := 9
	for _, x := range p.Slots {
		size += 1 + len(x.Data)
	}
	return size
}

// bytesOf writes a good image plainly.
func bytesOf(p api.Page) string {
	var b []byte
	for lsn := p.Lsn; len(b) < 8; lsn /= 256 {
		b = append([]byte{byte(lsn % 256)}, b...)
	}
	b = append(b, byte(len(p.Slots)))
	for _, x := range p.Slots {
		if !x.Used {
			b = append(b, 0xff)
			continue
		}
		b = append(append(b, byte(len(x.Data))), x.Data...)
	}
	for len(b) < 240 {
		b = append(b, 0)
	}
	return string(b)
}

// pageOf reads bytes plainly: whatever they are parted into is the image only if it is good and would be written so.
func pageOf(s string) (api.Page, api.Errno) {
	if len(s) != 240 {
		return api.Page{}, api.ErrForm
	}
	var p api.Page
	for i := range 8 {
		p.Lsn = p.Lsn*256 + int(s[i])
	}
	at := 9
	for range int(s[8]) {
		if at >= len(s) {
			return api.Page{}, api.ErrForm
		}
		n := int(s[at])
		at++
		if n == 255 {
			p.Slots = append(p.Slots, api.Slot{})
			continue
		}
		if at+n > len(s) {
			return api.Page{}, api.ErrForm
		}
		p.Slots = append(p.Slots, rec(s[at:at+n]))
		at += n
	}
	if !goodOf(p) || bytesOf(p) != s {
		return api.Page{}, api.ErrForm
	}
	return p, 0
}

// raw is a page that may hold anything, but is good often enough.
func raw(r *rand.Rand) api.Page {
	lsns := []int{0, 1, 1 << 40, r.Intn(1 << 40), 255, 256, 1<<40 + 1, -1, math.MinInt, math.MaxInt}
	p := api.Page{Lsn: lsns[r.Intn(6)]}
	if r.Intn(20) == 0 {
		p.Lsn = lsns[r.Intn(len(lsns))]
	}
	most := []int{2, 10, 30, 202}[r.Intn(4)]
	for range r.Intn(34) {
		x := api.Slot{Used: r.Intn(3) > 0}
		if x.Used || r.Intn(60) == 0 {
			x.Data = many(r.Intn(most))
		}
		p.Slots = append(p.Slots, x)
	}
	if n := len(p.Slots); n > 0 && r.Intn(9) > 0 {
		p.Slots[n-1].Used = true
	}
	return p
}

// bad are pages each of which lacks one thing to be good.
func bad() map[string]api.Page {
	return map[string]api.Page{
		"Lsn -1":                  page(-1),
		"Lsn -1, a record":        page(-1, rec("a")),
		"least Lsn":               page(math.MinInt),
		"Lsn 2^40 + 1":            page(1<<40 + 1),
		"greatest Lsn":            page(math.MaxInt, rec("a")),
		"33 slots":                page(0, slices.Repeat([]api.Slot{rec("")}, 33)...),
		"33 slots, the last Used": page(0, append(make([]api.Slot, 32), rec(""))...),
		"many slots":              page(0, slices.Repeat([]api.Slot{rec("")}, 5000)...),
		"Data but not Used":       page(0, api.Slot{Data: "a"}, rec("")),
		"Data, last, not Used":    page(0, rec(""), api.Slot{Data: "a"}),
		"Data of 201":             page(0, rec(many(201))),
		"Data of 2^20":            page(0, rec(many(1<<20)), rec("")),
		"last not Used":           page(0, rec("a"), api.Slot{}),
		"one slot, not Used":      page(0, api.Slot{}),
		"size 241":                page(0, rec(many(200)), rec(many(30))),
		"size 241, 32 slots":      page(0, append(slices.Repeat([]api.Slot{rec("")}, 31), rec(many(200)))...),
	}
}

func put(t *testing.T, p api.Page, slot int, x api.Slot) api.Page {
	t.Helper()
	q, e := slab.Put(p, slot, x)
	if e != 0 || !slab.Good(q) {
		t.Fatalf("Put(%v, %d, %v): %v, %d", p, slot, x, q, e)
	}
	return q
}

func refuse(t *testing.T, p api.Page, slot int, x api.Slot, e api.Errno) {
	t.Helper()
	if q, f := slab.Put(p, slot, x); f != e || q.Lsn != 0 || len(q.Slots) != 0 {
		t.Errorf("Put(%v, %d, %v): %v, %d, wanted %d", p, slot, x, q, f, e)
	}
}

func vacant(t *testing.T, p api.Page, n, slot int, e api.Errno) {
	t.Helper()
	if k, f := slab.Vacant(p, n); k != slot || f != e {
		t.Errorf("Vacant(%v, %d): %d, %d, wanted %d, %d", p, n, k, f, slot, e)
	}
}

func form(t *testing.T, s string) {
	t.Helper()
	if p, e := slab.Decode(s); e != api.ErrForm || p.Lsn != 0 || len(p.Slots) != 0 {
		t.Errorf("Decode(%x): %v, %d", s, p, e)
	}
}

// P3.1

func TestGoodImages(t *testing.T) {
	for _, c := range []struct {
		p    api.Page
		size int
	}{
		{api.Page{}, 9},
		{page(0, []api.Slot{}...), 9},
		{page(1 << 40), 9},
		{page(1<<40-1, rec("")), 10},
		{page(0, api.Slot{}, rec("ab")), 13},
		{page(5, rec("a"), api.Slot{}, api.Slot{}, rec("")), 14},
		{page(0, rec(many(200))), 210},
		{page(0, rec(many(200)), rec(many(29))), 240},
		{page(0, rec(many(200)), api.Slot{}, rec(many(28))), 240},
		{all(), 41},
		{page(0, append(make([]api.Slot, 31), rec(""))...), 41},
		{page(0, append(make([]api.Slot, 31), rec(many(199)))...), 240},
		{page(0, rec("\x00\xff\x80")), 13},
	} {
		if !slab.Good(c.p) || slab.Size(c.p) != c.size {
			t.Errorf("%v: %v, size %d, wanted %d", c.p, slab.Good(c.p), slab.Size(c.p), c.size)
		}
		s, e := slab.Encode(c.p)
		if e != 0 || s != bytesOf(c.p) {
			t.Errorf("Encode(%v): %x, %d", c.p, s, e)
		}
		if q, e := slab.Decode(s); e != 0 || !same(q, c.p) {
			t.Errorf("Decode(%x): %v, %d", s, q, e)
		}
	}
}

func TestImagesThatAreNotGood(t *testing.T) {
	for name, p := range bad() {
		s, e := slab.Encode(p)
		if slab.Good(p) || slab.Size(p) != 0 || s != "" || e != api.ErrArg {
			t.Errorf("%s: %v, size %d, %x, %d", name, slab.Good(p), slab.Size(p), s, e)
		}
	}
}

func TestKnownBytes(t *testing.T) {
	for _, c := range []struct {
		p    api.Page
		head string
	}{
		{api.Page{}, ""},
		{page(258, rec(""), api.Slot{}, rec("ab")), "\x00\x00\x00\x00\x00\x00\x01\x02\x03\x00\xff\x02ab"},
		{page(1 << 40), "\x00\x00\x01"},
		{page(1<<40-1, rec("\xff")), "\x00\x00\x00\xff\xff\xff\xff\xff\x01\x01\xff"},
		{page(0x0102030405, rec("\x00")), "\x00\x00\x00\x01\x02\x03\x04\x05\x01\x01\x00"},
		{page(0, rec(many(200))), "\x00\x00\x00\x00\x00\x00\x00\x00\x01\xc8" + many(200)},
	} {
		s, e := slab.Encode(c.p)
		if e != 0 || s != c.head+strings.Repeat("\x00", 240-len(c.head)) {
			t.Errorf("Encode(%v): %x, %d", c.p, s, e)
		}
	}
}

func TestBytesThatAreNoImage(t *testing.T) {
	zero := strings.Repeat("\x00", 240)
	for _, s := range []string{
		"", "\x00", zero[:239], zero + "\x00", zero + zero, zero[:9], // another length
		zero[:9] + "\x01" + zero[10:], zero[:239] + "\x01", zero[:239] + "\x80", zero[:100] + "\xff" + zero[101:], zero[:100] + "ä" + zero[102:], // not 00 behind no slot
		zero[:8] + "\x01\x02ab" + zero[12:239] + "\x01", zero[:8] + "\x01\x02abc" + zero[13:], // not 00 behind the last slot
		zero[:8] + "\x21" + zero[9:], zero[:8] + "\xe7" + zero[9:], zero[:8] + "\xe8" + zero[9:], zero[:8] + "\xff" + zero[9:], // too many slots
		zero[:8] + "\x21" + strings.Repeat("\xff", 32) + zero[41:],
		zero[:8] + "\x01\xc9" + zero[10:], zero[:8] + "\x01\xe6" + zero[10:], zero[:8] + "\x01\xfe" + zero[10:], // a length above 200
		zero[:8] + "\x02\xc8" + many(200) + "\x1e" + many(29), zero[:8] + "\x02\xc8" + many(200) + "\xc8" + many(29), // a length above what stands behind it
		zero[:8] + "\x03\xc8" + many(200) + "\x1d" + many(29),                                                                                 // a slot too many
		zero[:8] + "\x01\xff" + zero[10:], zero[:8] + "\x02\x01a\xff" + zero[12:], zero[:8] + "\x20" + strings.Repeat("\xff", 32) + zero[41:], // the last slot isn't Used
		"\x00\x00\x01\x00\x00\x00\x00\x01" + zero[8:], "\x00\x01" + zero[2:], "\x7f\xff\xff\xff\xff\xff\xff\xff" + zero[8:], // an Lsn above 2^40
		"\x80" + zero[1:], "\xff\xff\xff\xff\xff\xff\xff\xff" + zero[8:],
	} {
		form(t, s)
	}
}

func TestBytesOfChance(t *testing.T) {
	r := rand.New(rand.NewSource(1))
	found := 0
	for range 100000 {
		b := make([]byte, 240)
		b[8] = byte(r.Intn(34))
		for at := 9; at < 240 && r.Intn(12) > 0; at++ {
			b[at] = []byte{0, 0, 1, 2, 9, 200, 201, 254, 255, 255}[r.Intn(10)]
		}
		s := string(b)
		p, e := slab.Decode(s)
		q, f := pageOf(s)
		if e != f || !same(p, q) {
			t.Fatalf("Decode(%x): %v, %d, wanted %v, %d", s, p, e, q, f)
		}
		if e == 0 {
			found++
		}
	}
	if found < 1000 {
		t.Errorf("only %d images", found)
	}
}

// P3.1, and P7 of DOC.md: an image with one byte changed is read only if it is another image's bytes.
func TestBytesWithOneChanged(t *testing.T) {
	for _, p := range []api.Page{{}, page(1<<40, rec("ab"), api.Slot{}, rec("")), page(258, rec(many(200)), rec(many(29))), all()} {
		s := bytesOf(p)
		for at := range s {
			for c := range 256 {
				changed := s[:at] + string([]byte{byte(c)}) + s[at+1:]
				q, e := slab.Decode(changed)
				if q2, f := pageOf(changed); e != f || !same(q, q2) {
					t.Fatalf("Decode(%x): %v, %d, wanted %v, %d", changed, q, e, q2, f)
				}
				if back, _ := slab.Encode(q); e == 0 && back != changed {
					t.Fatalf("Decode(%x) is the image of %x", changed, back)
				}
			}
		}
	}
}

func TestPagesOfChance(t *testing.T) {
	r := rand.New(rand.NewSource(2))
	good := 0
	for range 30000 {
		p := raw(r)
		if slab.Good(p) != goodOf(p) {
			t.Fatalf("Good(%v): %v", p, slab.Good(p))
		}
		s, e := slab.Encode(p)
		if !goodOf(p) {
			if s != "" || e != api.ErrArg || slab.Size(p) != 0 {
				t.Fatalf("%v: %x, %d, size %d", p, s, e, slab.Size(p))
			}
			continue
		}
		good++
		if s != bytesOf(p) || e != 0 || slab.Size(p) != sizeOf(p) {
			t.Fatalf("%v: %x, %d, size %d", p, s, e, slab.Size(p))
		}
		if q, e := slab.Decode(s); e != 0 || !same(q, p) {
			t.Fatalf("Decode(%x): %v, %d", s, q, e)
		}
	}
	if good < 3000 {
		t.Errorf("only %d were good", good)
	}
}

// P3.2

func TestAt(t *testing.T) {
	p := page(9, rec("a"), api.Slot{}, rec(""), rec("\x00"))
	for slot, want := range map[int]api.Slot{
		0: rec("a"), 1: {}, 2: rec(""), 3: rec("\x00"),
		4: {}, 31: {}, 32: {}, 33: {}, -1: {}, -32: {}, math.MaxInt: {}, math.MinInt: {},
	} {
		if x := slab.At(p, slot); x != want {
			t.Errorf("At %d: %v", slot, x)
		}
		if x := slab.At(api.Page{}, slot); x != (api.Slot{}) {
			t.Errorf("At %d of the empty image: %v", slot, x)
		}
	}
	q := all()
	q.Slots[0], q.Slots[31] = rec("first"), rec("last")
	if slab.At(q, 0) != rec("first") || slab.At(q, 31) != rec("last") || slab.At(q, 32) != (api.Slot{}) {
		t.Errorf("At of %v", q)
	}
}

func TestAtOfImagesThatAreNotGood(t *testing.T) {
	for name, p := range bad() {
		for slot := -1; slot < 40; slot++ {
			if x := slab.At(p, slot); x != (api.Slot{}) {
				t.Errorf("%s: At %d: %v", name, slot, x)
			}
		}
	}
}

// P3.3

func TestPutExamples(t *testing.T) {
	p := put(t, api.Page{}, 1, rec("ab"))
	if !same(p, page(0, api.Slot{}, rec("ab"))) || slab.Size(p) != 13 {
		t.Errorf("%v, size %d", p, slab.Size(p))
	}
	if p = put(t, p, 1, api.Slot{}); !same(p, api.Page{}) {
		t.Errorf("nothing put again: %v", p)
	}
}

func TestPut(t *testing.T) {
	p := page(77, rec("a"), api.Slot{}, rec("c"))
	for _, c := range []struct {
		slot int
		x    api.Slot
		want api.Page
	}{
		{0, rec("A"), page(77, rec("A"), api.Slot{}, rec("c"))},
		{0, rec(""), page(77, rec(""), api.Slot{}, rec("c"))},
		{0, api.Slot{}, page(77, api.Slot{}, api.Slot{}, rec("c"))},
		{1, rec("b"), page(77, rec("a"), rec("b"), rec("c"))},
		{1, api.Slot{}, p},
		{2, rec("c"), p},
		{2, api.Slot{}, page(77, rec("a"))},
		{3, rec("d"), page(77, rec("a"), api.Slot{}, rec("c"), rec("d"))},
		{3, api.Slot{}, p},
		{5, rec(""), page(77, rec("a"), api.Slot{}, rec("c"), api.Slot{}, api.Slot{}, rec(""))},
		{31, api.Slot{}, p},
		{31, rec("z"), page(77, append(append([]api.Slot{rec("a"), {}, rec("c")}, make([]api.Slot, 28)...), rec("z"))...)},
	} {
		if q := put(t, p, c.slot, c.x); !same(q, c.want) {
			t.Errorf("Put(%v, %d, %v): %v", p, c.slot, c.x, q)
		}
	}
}

func TestPutTakesEmptySlotsAway(t *testing.T) {
	p := put(t, put(t, api.Page{}, 31, rec("z")), 4, rec("e"))
	if p = put(t, p, 31, api.Slot{}); !same(p, page(0, append(make([]api.Slot, 4), rec("e"))...)) {
		t.Errorf("the last one is gone: %v", p)
	}
	if p = put(t, p, 4, api.Slot{}); len(p.Slots) != 0 {
		t.Errorf("all are gone: %v", p)
	}
}

func TestPutWrongInputs(t *testing.T) {
	for name, p := range bad() {
		for _, slot := range []int{-1, 0, 1, 32} {
			for _, x := range []api.Slot{{}, rec("a"), rec(many(201)), {Data: "a"}, rec(many(240))} {
				if q, e := slab.Put(p, slot, x); e != api.ErrArg || q.Lsn != 0 || len(q.Slots) != 0 {
					t.Errorf("%s: Put at %d: %v, %d", name, slot, q, e)
				}
			}
		}
	}
	full := page(3, rec(many(200)), rec(many(29)))
	for _, p := range []api.Page{{}, page(3, rec("a")), full, all()} {
		for _, slot := range []int{-1, 32, 33, -32, math.MinInt, math.MaxInt} {
			for _, x := range []api.Slot{{}, rec(""), rec("a"), rec(many(200)), rec(many(201)), {Data: "a"}} {
				refuse(t, p, slot, x, api.ErrArg)
			}
		}
		for _, slot := range []int{0, 1, 30, 31} {
			refuse(t, p, slot, api.Slot{Data: "a"}, api.ErrArg)
			refuse(t, p, slot, api.Slot{Data: many(201)}, api.ErrArg)
			refuse(t, p, slot, rec(many(201)), api.ErrLong)
			refuse(t, p, slot, rec(many(1<<20)), api.ErrLong)
		}
	}
}

func TestPutAtTheEdgeOfThePage(t *testing.T) {
	p := page(3, rec(many(200)))
	put(t, p, 1, rec(many(29)))
	refuse(t, p, 1, rec(many(30)), api.ErrPageFull)
	put(t, p, 3, rec(many(27)))
	refuse(t, p, 3, rec(many(28)), api.ErrPageFull)
	put(t, p, 30, rec(""))
	refuse(t, p, 31, rec(""), api.ErrPageFull)
	refuse(t, p, 31, rec(many(200)), api.ErrPageFull)
	put(t, api.Page{}, 0, rec(many(200)))
	put(t, api.Page{}, 30, rec(many(200)))
	refuse(t, api.Page{}, 31, rec(many(200)), api.ErrPageFull)
	put(t, api.Page{}, 31, rec(many(199)))

	full := page(3, rec(many(200)), rec(many(29)))
	for slot := 2; slot < 32; slot++ {
		refuse(t, full, slot, rec(""), api.ErrPageFull)
		if q := put(t, full, slot, api.Slot{}); !same(q, full) {
			t.Errorf("nothing at %d of the full page: %v", slot, q)
		}
	}
	refuse(t, full, 1, rec(many(30)), api.ErrPageFull)
	if q := put(t, full, 1, rec(strings.Repeat("y", 29))); slab.Size(q) != 240 {
		t.Errorf("size %d", slab.Size(q))
	}
	if q := put(t, full, 0, api.Slot{}); slab.Size(q) != 40 {
		t.Errorf("size %d", slab.Size(q))
	}
}

// P3.4

func TestVacant(t *testing.T) {
	vacant(t, api.Page{}, 0, 0, 0)
	vacant(t, api.Page{}, 200, 0, 0)
	vacant(t, page(5, rec("a")), 3, 1, 0)
	vacant(t, page(5, rec("a"), api.Slot{}, rec("c")), 3, 1, 0)
	vacant(t, page(5, api.Slot{}, api.Slot{}, rec("c"), api.Slot{}, rec("e")), 0, 0, 0)
	vacant(t, page(5, rec("a"), rec(""), api.Slot{}, api.Slot{}, rec("e")), 100, 2, 0)
	thirtyOne := all()
	thirtyOne.Slots = thirtyOne.Slots[:31]
	vacant(t, thirtyOne, 0, 31, 0)
	vacant(t, thirtyOne, 199, 31, 0)
	vacant(t, thirtyOne, 200, 0, api.ErrPageFull)
	vacant(t, page(5, append(make([]api.Slot, 31), rec(""))...), 199, 0, 0)
	vacant(t, page(5, append(make([]api.Slot, 31), rec(""))...), 200, 0, api.ErrPageFull)
}

func TestVacantWrongInputs(t *testing.T) {
	for name, p := range bad() {
		for _, n := range []int{math.MinInt, -1, 0, 200, 201, math.MaxInt} {
			if slot, e := slab.Vacant(p, n); slot != 0 || e != api.ErrArg {
				t.Errorf("%s: Vacant of %d: %d, %d", name, n, slot, e)
			}
		}
	}
	for _, p := range []api.Page{{}, page(3, rec("a")), page(3, rec(many(200)), rec(many(29))), all()} {
		vacant(t, p, -1, 0, api.ErrArg)
		vacant(t, p, math.MinInt, 0, api.ErrArg)
		vacant(t, p, 201, 0, api.ErrLong)
		vacant(t, p, math.MaxInt, 0, api.ErrLong)
	}
}

func TestVacantAtTheEdgeOfThePage(t *testing.T) {
	vacant(t, all(), 0, 0, api.ErrPageFull)
	vacant(t, all(), 200, 0, api.ErrPageFull)
	p := page(3, rec(many(200)))
	vacant(t, p, 29, 1, 0)
	vacant(t, p, 30, 0, api.ErrPageFull)
	within := page(3, rec(many(200)), api.Slot{}, rec(many(18)))
	vacant(t, within, 10, 1, 0)
	vacant(t, within, 11, 0, api.ErrPageFull)
	full := page(3, rec(many(200)), rec(many(29)))
	vacant(t, full, 0, 0, api.ErrPageFull)
	hole := page(3, rec(many(200)), api.Slot{}, rec(many(28)))
	vacant(t, hole, 0, 1, 0)
	vacant(t, hole, 1, 0, api.ErrPageFull)
}

func TestVacantIsWhatPutSays(t *testing.T) {
	r := rand.New(rand.NewSource(3))
	for range 5000 {
		p := raw(r)
		if !goodOf(p) {
			continue
		}
		for _, n := range []int{0, 1, r.Intn(201), max(0, min(200, 240-slab.Size(p))), max(0, min(200, 239-slab.Size(p)))} {
			first := 0
			for slab.At(p, first).Used {
				first++
			}
			slot, e := slab.Vacant(p, n)
			if _, f := slab.Put(p, first, rec(many(n))); first < 32 && f == 0 {
				if slot != first || e != 0 {
					t.Fatalf("Vacant(%v, %d): %d, %d, wanted %d", p, n, slot, e, first)
				}
			} else if slot != 0 || e != api.ErrPageFull {
				t.Fatalf("Vacant(%v, %d): %d, %d, though %d answers %d", p, n, slot, e, first, f)
			}
		}
	}
}

// P3.5

type row struct {
	slot int
	data string
}

// rows goes over at most most of them.
func rows(seq iter.Seq2[int, string], most int) []row {
	var list []row
	for slot, data := range seq {
		list = append(list, row{slot, data})
		if len(list) == most {
			break
		}
	}
	return list
}

func TestRows(t *testing.T) {
	p := page(9, api.Slot{}, rec("b"), rec(""), api.Slot{}, rec("e"), rec("\x00"))
	want := []row{{1, "b"}, {2, ""}, {4, "e"}, {5, "\x00"}}
	seq := slab.Rows(p)
	for range 3 {
		if list := rows(seq, 9); !slices.Equal(list, want) {
			t.Errorf("Rows(%v): %v", p, list)
		}
		for most := 1; most <= 4; most++ {
			if list := rows(seq, most); !slices.Equal(list, want[:most]) {
				t.Errorf("the first %d of Rows(%v): %v", most, p, list)
			}
		}
	}
	if list := rows(slab.Rows(all()), 99); len(list) != 32 || list[31] != (row{31, ""}) {
		t.Errorf("Rows of all: %v", list)
	}
	if list := rows(slab.Rows(api.Page{}), 99); len(list) != 0 {
		t.Errorf("Rows of the empty image: %v", list)
	}
}

func TestRowsWithinRows(t *testing.T) {
	seq := slab.Rows(page(9, rec("a"), api.Slot{}, rec("c")))
	var list []row
	for slot, data := range seq {
		for slot2, data2 := range seq {
			list = append(list, row{10*slot + slot2, data + data2})
		}
	}
	if !slices.Equal(list, []row{{0, "aa"}, {2, "ac"}, {20, "ca"}, {22, "cc"}}) {
		t.Error(list)
	}
}

func TestRowsOfImagesThatAreNotGood(t *testing.T) {
	for name, p := range bad() {
		seq := slab.Rows(p)
		if seq == nil {
			t.Fatalf("%s: no iterator", name)
		}
		for range 2 {
			if list := rows(seq, 9); len(list) != 0 {
				t.Errorf("%s: %v", name, list)
			}
		}
	}
}

func TestRowsAreThoseOfTheCall(t *testing.T) {
	p := page(9, rec("a"), api.Slot{}, rec("c"))
	want := []row{{0, "a"}, {2, "c"}}
	seq := slab.Rows(p)
	for range 2 {
		var list []row
		for slot, data := range seq {
			list = append(list, row{slot, data})
			p.Slots[1], p.Slots[2] = rec("b"), rec("C")
		}
		if !slices.Equal(list, want) {
			t.Errorf("the page changed meanwhile: %v", list)
		}
	}
	p.Slots[2].Used = false
	if list := rows(seq, 9); !slices.Equal(list, want) {
		t.Errorf("the page isn't good any more: %v", list)
	}
	broken := page(9, rec("a"), api.Slot{})
	seq = slab.Rows(broken)
	broken.Slots[1].Used = true
	if list := rows(seq, 9); len(list) != 0 {
		t.Errorf("the page became good: %v", list)
	}
}

// P3.6

func TestWhatIsPutIsThere(t *testing.T) {
	r := rand.New(rand.NewSource(4))
	for range 300 {
		lsn := r.Intn(1 << 40)
		p := api.Page{Lsn: lsn}
		model := map[int]string{}
		for range 60 {
			slot := r.Intn(32)
			x := api.Slot{Used: r.Intn(3) > 0}
			if x.Used {
				x.Data = many(r.Intn(1 + r.Intn(60)))
			}
			before := slab.At(p, slot)
			q, e := slab.Put(p, slot, x)
			if e != 0 {
				if e != api.ErrPageFull {
					t.Fatalf("Put(%v, %d, %v): %d", p, slot, x, e)
				}
				continue
			}
			if back := put(t, q, slot, before); !same(back, p) {
				t.Fatalf("%v put back: %v", p, back)
			}
			p = q
			delete(model, slot)
			if x.Used {
				model[slot] = x.Data
			}
			if p.Lsn != lsn || !maps.Equal(maps.Collect(slab.Rows(p)), model) {
				t.Fatalf("%v, wanted %v", p, model)
			}
			for k := range 32 {
				data, ok := model[k]
				if slab.At(p, k) != (api.Slot{Used: ok, Data: data}) {
					t.Fatalf("At %d: %v, wanted %v", k, slab.At(p, k), model)
				}
			}
		}
	}
}

func TestPutBackFromTheEdge(t *testing.T) {
	for _, p := range []api.Page{{}, page(1<<40, rec("a")), page(3, rec(many(200)), rec(many(29))), all(), page(3, api.Slot{}, rec(""))} {
		for slot := range 32 {
			for _, x := range []api.Slot{{}, rec(""), rec("abc")} {
				q, e := slab.Put(p, slot, x)
				if e == 0 && !same(put(t, q, slot, slab.At(p, slot)), p) {
					t.Errorf("%v isn't again what it was", p)
				}
			}
		}
	}
}

func TestAnswersAreNewMemory(t *testing.T) {
	whole := []api.Slot{rec("a"), {}, rec("c"), {Data: "spare"}, {Data: "spare"}}
	before := slices.Clone(whole)
	p := page(9, whole[:3]...)
	p.Slots = whole[:3:5]
	var answers []api.Page
	for _, slot := range []int{0, 1, 2, 3, 4, 31} {
		for _, x := range []api.Slot{{}, rec("x"), slab.At(p, slot)} {
			answers = append(answers, put(t, p, slot, x))
		}
	}
	slab.Put(p, 3, rec(many(220)))
	slab.Put(p, 3, rec(many(200)))
	slab.Vacant(p, 200)
	slab.Encode(p)
	rows(slab.Rows(p), 1)
	if !slices.Equal(whole, before) {
		t.Errorf("what was handed in is %v", whole)
	}
	for i, q := range answers {
		kept := make([]api.Page, len(answers))
		for j, other := range answers {
			kept[j] = page(other.Lsn, slices.Clone(other.Slots)...)
		}
		q.Slots = q.Slots[:cap(q.Slots)]
		for k := range q.Slots {
			q.Slots[k] = rec("scribble")
		}
		if !slices.Equal(whole, before) {
			t.Fatalf("answer %d shares memory with the argument", i)
		}
		for j, other := range answers {
			if j != i && !same(other, kept[j]) {
				t.Fatalf("answers %d and %d share memory", i, j)
			}
		}
	}
}

func TestDecodedTwice(t *testing.T) {
	s := bytesOf(page(9, rec("a"), api.Slot{}, rec("c")))
	p, _ := slab.Decode(s)
	p.Slots[0] = rec("b")
	q, e := slab.Decode(s)
	if e != 0 || !same(q, page(9, rec("a"), api.Slot{}, rec("c"))) {
		t.Errorf("%v, %d", q, e)
	}
}

// P1 of DOC.md

func TestCallsEndWhateverTheyAreGiven(t *testing.T) {
	r := rand.New(rand.NewSource(5))
	ints := []int{math.MinInt, math.MinInt + 1, -33, -1, 0, 1, 31, 32, 200, 201, 240, math.MaxInt - 1, math.MaxInt}
	pages := slices.Collect(maps.Values(bad()))
	for range 300 {
		pages = append(pages, raw(r))
	}
	for _, p := range pages {
		good := goodOf(p)
		for _, n := range ints {
			for _, x := range []api.Slot{{}, rec(""), {Data: "a"}, rec(many(300))} {
				if q, e := slab.Put(p, n, x); e == 0 && (!good || !goodOf(q)) || e != 0 && (q.Lsn != 0 || len(q.Slots) != 0) {
					t.Fatalf("Put(%v, %d, %v): %v, %d", p, n, x, q, e)
				}
			}
			if slot, e := slab.Vacant(p, n); e != 0 && slot != 0 || e == 0 && (!good || slab.At(p, slot).Used) {
				t.Fatalf("Vacant(%v, %d): %d, %d", p, n, slot, e)
			}
			if x := slab.At(p, n); !good && x != (api.Slot{}) {
				t.Fatalf("At(%v, %d): %v", p, n, x)
			}
		}
	}
	for range 20000 {
		b := make([]byte, 238+r.Intn(4))
		for i := range b {
			if r.Intn(3) == 0 {
				b[i] = byte(r.Intn(256))
			}
		}
		if p, e := slab.Decode(string(b)); e == 0 && (!goodOf(p) || bytesOf(p) != string(b)) || e != 0 && (e != api.ErrForm || p.Lsn != 0 || len(p.Slots) != 0) {
			t.Fatalf("Decode(%x): %v, %d", b, p, e)
		}
	}
}
