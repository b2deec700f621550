package note_test

import (
	"encoding/binary"
	"hash/crc32"
	"math/rand"
	"slices"
	"strings"
	"testing"

	"seneschal/api"
	"seneschal/entry"
	"seneschal/nib"
	"seneschal/note"
	"seneschal/slab"
)

// table is the chapter's own: what each kind has.
var table = map[int]string{
	1:  "page x need",
	2:  "page x",
	3:  "page",
	4:  "entries",
	5:  "page image",
	6:  "txn",
	7:  "n",
	8:  "n",
	9:  "page x need image",
	10: "page x",
	11: "txn",
	12: "",
	13: "n",
}

// told are the fields that a message has, by the table.
func told(m api.Msg) []string {
	list := strings.Fields(table[m.Kind])
	if m.Kind == 9 && !m.Need {
		return list[:3]
	}
	return list
}

// stripped is the message with nothing but these fields.
func stripped(m api.Msg, fields []string) api.Msg {
	left := api.Msg{Kind: m.Kind}
	for _, f := range fields {
		switch f {
		case "page":
			left.Page = m.Page
		case "x":
			left.X = m.X
		case "need":
			left.Need = m.Need
		case "txn":
			left.Txn = m.Txn
		case "n":
			left.N = m.N
		case "image":
			left.Image = m.Image
		case "entries":
			left.Entries = m.Entries
		}
	}
	return left
}

// inRange tells whether a field is as it is to be.
func inRange(m api.Msg, field string) bool {
	switch field {
	case "page":
		return m.Page >= 0 && m.Page <= 1023
	case "txn":
		return entry.Known(m.Txn)
	case "n":
		return m.N <= 1<<20 && (m.N >= 1 || m.N == 0 && m.Kind == 13)
	case "image":
		return slab.Good(m.Image)
	case "entries":
		for _, x := range m.Entries {
			if !entry.Good(x) {
				return false
			}
		}
		return len(m.Entries) >= 1 && len(m.Entries) <= 16
	}
	return true
}

// goodOf reads the chapter's words plainly.
func goodOf(m api.Msg) bool {
	if _, ok := table[m.Kind]; !ok || !same(m, stripped(m, told(m))) {
		return false
	}
	for _, f := range told(m) {
		if !inRange(m, f) {
			return false
		}
	}
	return true
}

// same holds all fields of two messages against each other; nil and empty lists are one.
func same(m, o api.Msg) bool {
	return m.Kind == o.Kind && m.Page == o.Page && m.X == o.X && m.Need == o.Need && m.N == o.N && m.Txn == o.Txn &&
		m.Image.Lsn == o.Image.Lsn && slices.Equal(m.Image.Slots, o.Image.Slots) && slices.Equal(m.Entries, o.Entries)
}

func isZero(m api.Msg) bool {
	return same(m, api.Msg{})
}

func bit(yes bool) string {
	if yes {
		return "\x02"
	}
	return "\x00"
}

// bodyOf writes a good message plainly.
func bodyOf(m api.Msg) string {
	s := nib.Int(m.Kind)
	for _, f := range told(m) {
		switch f {
		case "page":
			s += nib.Int(m.Page)
		case "x":
			s += bit(m.X)
		case "need":
			s += bit(m.Need)
		case "txn":
			s += nib.Int(m.Txn.Client) + nib.Int(m.Txn.Epoch) + nib.Int(m.Txn.N)
		case "n":
			s += nib.Int(m.N)
		case "image":
			b, _ := slab.Encode(m.Image)
			s += b
		case "entries":
			s += nib.Int(len(m.Entries))
			for _, x := range m.Entries {
				b, _ := entry.Encode(x)
				s += b
			}
		}
	}
	return s
}

// framed puts a body's check ahead of it, by the language's own library.
func framed(body string) string {
	return string(binary.BigEndian.AppendUint32(nil, crc32.ChecksumIEEE([]byte(body)))) + body
}

// parted parts a body into a message, whatever comes of it.
func parted(s string) api.Msg {
	number := func() int {
		n, behind, _ := nib.TakeInt(s)
		s = behind
		return n
	}
	m := api.Msg{Kind: number()}
	for _, f := range strings.Fields(table[m.Kind]) {
		switch f {
		case "page":
			m.Page = number()
		case "x":
			m.X = number() != 0
		case "need":
			m.Need = number() != 0
		case "txn":
			m.Txn = api.Txn{Client: number(), Epoch: number(), N: number()}
		case "n":
			m.N = number()
		case "image":
			if m.Kind == 9 && !m.Need || len(s) < 240 {
				break
			}
			m.Image, _ = slab.Decode(s[:240])
			s = s[240:]
		case "entries":
			number()
			for len(s) > 0 && len(m.Entries) < 99 {
				x, behind, _ := entry.Decode(s)
				m.Entries, s = append(m.Entries, x), behind
			}
		}
	}
	return m
}

// msgOf reads bytes plainly: whatever they are parted into is the message only if it is good and would be written so.
func msgOf(s string) (api.Msg, api.Errno) {
	if len(s) < 4 {
		return api.Msg{}, api.ErrShort
	}
	if framed(s[4:]) != s {
		return api.Msg{}, api.ErrSum
	}
	m := parted(s[4:])
	if !goodOf(m) || bodyOf(m) != s[4:] {
		return api.Msg{}, api.ErrForm
	}
	return m, 0
}

// check holds all calls of a raw message against the plain readings, and answers whether it is good.
func check(t *testing.T, m api.Msg) bool {
	t.Helper()
	good := goodOf(m)
	if note.Good(m) != good {
		t.Fatalf("Good(%v): %v", m, note.Good(m))
	}
	s, e := note.Encode(m)
	if !good {
		if s != "" || e != api.ErrArg {
			t.Fatalf("Encode(%v): %x, %d", m, s, e)
		}
		return false
	}
	if want := framed(bodyOf(m)); s != want || e != 0 {
		t.Fatalf("Encode(%v): %x, %d, wanted %x", m, s, e, want)
	}
	if m2, e := note.Decode(s); e != 0 || !same(m, m2) {
		t.Fatalf("Decode(%x): %v, %d, wanted %v", s, m2, e, m)
	}
	return true
}

// decode holds Decode of raw bytes against the plain reading, and answers its error.
func decode(t *testing.T, s string) api.Errno {
	t.Helper()
	m, e := note.Decode(s)
	m2, e2 := msgOf(s)
	if e != e2 || !same(m, m2) {
		t.Fatalf("Decode(%x): %v, %d, wanted %v, %d", s, m, e, m2, e2)
	}
	return e
}

// refuse wants ErrForm of a body that has its check.
func refuse(t *testing.T, body string) {
	t.Helper()
	if e := decode(t, framed(body)); e != api.ErrForm {
		t.Fatalf("Decode of the body %x: %d", body, e)
	}
}

// chance is a message that is good.
func chance(r *rand.Rand) api.Msg {
	m := api.Msg{
		Kind:    1 + r.Intn(13),
		Page:    r.Intn(1024),
		X:       r.Intn(2) == 0,
		Need:    r.Intn(2) == 0,
		N:       1 + r.Intn(1<<r.Intn(21)),
		Txn:     api.Txn{Client: 1 + r.Intn(8), Epoch: 1 + r.Intn(1<<r.Intn(31)), N: 1 + r.Intn(1<<r.Intn(31))},
		Image:   chancePage(r),
		Entries: chanceEntries(r, 1+r.Intn(16)),
	}
	if m.Kind == 13 {
		m.N -= r.Intn(2)
	}
	return stripped(m, told(m))
}

func chanceText(r *rand.Rand, most int) string {
	b := make([]byte, r.Intn(most+1))
	for i := range b {
		b[i] = byte(r.Intn(256))
	}
	return string(b)
}

func chanceSlot(r *rand.Rand, most int) api.Slot {
	if r.Intn(3) == 0 {
		return api.Slot{}
	}
	return api.Slot{Used: true, Data: chanceText(r, most)}
}

func chancePage(r *rand.Rand) api.Page {
	p := api.Page{Lsn: r.Intn(1 << r.Intn(41))}
	for range r.Intn(20) {
		if q, e := slab.Put(p, r.Intn(32), chanceSlot(r, 200>>r.Intn(8))); e == 0 {
			p = q
		}
	}
	return p
}

func chanceEntries(r *rand.Rand, n int) []api.Entry {
	var list []api.Entry
	for range n {
		x := api.Entry{
			Kind: 1 + r.Intn(4),
			Txn:  api.Txn{Client: 1 + r.Intn(8), Epoch: 1 + r.Intn(1<<30), N: 1 + r.Intn(1<<30)},
			Lsn:  1 + r.Intn(1<<r.Intn(41)),
		}
		x.Prev = r.Intn(x.Lsn)
		if x.Kind <= 2 {
			x.Page, x.Slot, x.Was, x.Is = r.Intn(1024), r.Intn(32), chanceSlot(r, 200), chanceSlot(r, 20)
		}
		if x.Kind == 2 {
			x.Next = r.Intn(x.Prev + 1)
		}
		list = append(list, x)
	}
	return list
}
