package scroll_test

import (
	"bytes"
	"encoding/binary"
	"iter"
	"slices"
	"strings"
	"testing"

	"seneschal/api"
	"seneschal/entry"
	"seneschal/plate"
	"seneschal/scroll"
)

// sized is an entry of just so many bytes, from 6 on to 400, that is told from others by k.
func sized(k, size int) api.Entry {
	txn := api.Txn{Client: 1 + k%8, Epoch: 1 + k/8%60, N: 1 + k/480%60}
	if size < 11 {
		return api.Entry{Kind: api.Commit, Txn: txn, Lsn: 2 << (7 * (size - 6))}
	}
	x := api.Entry{Kind: api.Change, Txn: txn, Lsn: 1, Page: k % 64, Slot: k % 32}
	for _, was := range []int{-1, 0, 20, 100, 190, 191} {
		for is := -1; is <= 200; is++ {
			if size == 9+slotBytes(was)+slotBytes(is) {
				x.Was, x.Is = slot(k, was), slot(k+1, is)
				return x
			}
		}
	}
	panic(size)
}

func slot(k, length int) api.Slot {
	if length < 0 {
		return api.Slot{}
	}
	return api.Slot{Used: true, Data: strings.Repeat(string([]byte{byte(k), 'x'}), length/2+1)[:length]}
}

func slotBytes(length int) int {
	if length < 0 {
		return 1
	}
	if length < 64 {
		return 2 + length
	}
	return 3 + length
}

func bytesOf(list ...api.Entry) string {
	var all strings.Builder
	for _, x := range list {
		s, e := entry.Encode(x)
		if e != 0 {
			panic(e)
		}
		all.WriteString(s)
	}
	return all.String()
}

// filled is entries of just so many bytes in all, from 12 on.
func filled(k, length int) []api.Entry {
	var list []api.Entry
	for ; length > 300; length -= 200 {
		list = append(list, sized(k+len(list), 200))
	}
	return append(list, sized(k+len(list), length))
}

// rec is a sector of the log, number by number.
type rec struct {
	n           uint64
	gen         uint32
	first       uint64
	count, used uint16
	load        string
}

// bytes: the load is filled up, or cut, to the end of the sector.
func (r rec) bytes() string {
	var b bytes.Buffer
	for _, n := range []any{r.n, r.gen, r.first, r.count, r.used} {
		binary.Write(&b, binary.BigEndian, n)
	}
	b.WriteString(r.load)
	b.WriteString(strings.Repeat("\x00", 256))
	return b.String()[:256]
}

// recs are the sectors of a batch of these bytes.
func recs(at, gen int, body string) []rec {
	var list []rec
	for load := range slices.Chunk([]byte(body), 232) {
		list = append(list, rec{uint64(at + len(list)), uint32(gen), uint64(at), 0, uint16(len(load)), string(load)})
	}
	for i := range list {
		list[i].count = uint16(len(list))
	}
	return list
}

// site is where a log is.
type site struct {
	d           *plate.Plate
	from, count int
}

func (s site) put(t *testing.T, n int, sector string) {
	t.Helper()
	if e := s.d.Write(s.from+n%s.count, sector); e != 0 {
		t.Fatal(n, e)
	}
}

func (s site) putAll(t *testing.T, list []rec) {
	t.Helper()
	for _, r := range list {
		s.put(t, int(r.n), r.bytes())
	}
	if e := s.d.Sync(); e != 0 {
		t.Fatal(e)
	}
}

// tear tears the sector n, and nothing else; the power is on again behind that.
func (s site) tear(t *testing.T, n int) {
	t.Helper()
	s.put(t, n, strings.Repeat("t", 256))
	s.d.Off()
	s.d.On([]int{2})
}

func (s site) open(t *testing.T, m api.Mark, want []api.Entry) *scroll.Log {
	t.Helper()
	acts, waits := s.d.Acts(), s.d.Waits()
	l, list, e := scroll.Open(s.d, s.from, s.count, m)
	if l == nil || e != 0 || !slices.Equal(list, want) {
		t.Fatalf("Open: %d entries, %d, wanted %d entries", len(list), e, len(want))
	}
	if s.d.Acts() != acts || s.d.Waits() != waits {
		t.Error("Open has written")
	}
	if l.Last() != m.First-1+len(want) || l.Sure() != l.Last() {
		t.Errorf("Last %d, Sure %d, wanted %d", l.Last(), l.Sure(), m.First-1+len(want))
	}
	return l
}

// number is a number in so many bytes, the highest first.
func number(n, bytes int) string {
	b := binary.BigEndian.AppendUint64(nil, uint64(n))
	return string(b[8-bytes:])
}

// whole reads the chapter plainly: the entries and the generation of a batch of just count sectors from at on, if that is whole.
func (s site) whole(at, count int) ([]api.Entry, int, bool) {
	body, gen := "", ""
	for k := range count {
		b, e := s.d.Read(s.from + (at+k)%s.count)
		if e != 0 {
			return nil, 0, false
		}
		if k == 0 {
			gen = b[8:12]
		}
		if !strings.HasPrefix(b, number(at+k, 8)+gen+number(at, 8)+number(count, 2)) {
			return nil, 0, false
		}
		used := int(b[22])<<8 + int(b[23])
		if used == 0 || used > 232 || k < count-1 && used != 232 || strings.Trim(b[24+used:], "\x00") != "" {
			return nil, 0, false
		}
		body += b[24 : 24+used]
	}
	var list []api.Entry
	for body != "" {
		x, rest, e := entry.Decode(body)
		if e != 0 {
			return nil, 0, false
		}
		list, body = append(list, x), rest
	}
	return list, int(binary.BigEndian.Uint32([]byte(gen))), true
}

// counts reads the chapter plainly: what counts, batch by batch.
func (s site) counts(m api.Mark) [][]api.Entry {
	var all [][]api.Entry
	at, gen := m.At, 0
	for more := true; more; {
		more = false
		for count := 1; count <= 1024 && at+count-m.At <= s.count; count++ {
			list, g, ok := s.whole(at, count)
			if ok && g >= gen && g <= m.Gen {
				all = append(all, list)
				at, gen, more = at+count, g, true
				break
			}
		}
	}
	return all
}

// plain is a log read plainly: all batches, and what waits.
type plain struct {
	at, first, gen int // where it begins; what is written has the generation gen
	count          int
	batches        [][]api.Entry
	waiting        []api.Entry
}

func sectorsOf(list []api.Entry) int {
	n := 0
	for left := len(bytesOf(list...)); left > 0; left -= 232 {
		n++
	}
	return n
}

func (m *plain) sure() []api.Entry { return slices.Concat(m.batches...) }

func (m *plain) all() []api.Entry { return slices.Concat(m.sure(), m.waiting) }

func (m *plain) left() int {
	left := m.count
	for _, b := range m.batches {
		left -= sectorsOf(b)
	}
	return left
}

func (m *plain) end() int { return m.at + m.count - m.left() }

func (m *plain) append(x api.Entry) (int, api.Errno) {
	if !entry.Good(x) {
		return 0, 1
	}
	n := sectorsOf(append(slices.Clone(m.waiting), x))
	if n > 1024 || n > m.left() {
		return 0, 11
	}
	m.waiting = append(m.waiting, x)
	return m.first - 1 + len(m.all()), 0
}

// force: the sectors that it writes.
func (m *plain) force() []rec {
	if len(m.waiting) == 0 {
		return nil
	}
	list := recs(m.end(), m.gen, bytesOf(m.waiting...))
	m.batches = append(m.batches, m.waiting)
	m.waiting = nil
	return list
}

// starts are the marks, without a generation, of all batches and of the end.
func (m *plain) starts() []api.Mark {
	list := []api.Mark{{At: m.at, First: m.first}}
	for _, b := range m.batches {
		last := list[len(list)-1]
		list = append(list, api.Mark{At: last.At + sectorsOf(b), First: last.First + len(b)})
	}
	return list
}

func (m *plain) mark(n, gen int) (api.Mark, api.Errno) {
	if n < m.first || n > m.first+len(m.sure()) || gen < 1 || gen > 1<<30 {
		return api.Mark{}, 1
	}
	found := api.Mark{}
	for _, x := range m.starts() {
		if x.First <= n {
			found = x
		}
	}
	found.Gen = gen
	return found, 0
}

func (m *plain) cut(x api.Mark) api.Errno {
	i := slices.Index(m.starts(), api.Mark{At: x.At, First: x.First})
	if i < 0 || x.Gen < 1 || x.Gen > 1<<30 {
		return 1
	}
	m.batches = m.batches[i:]
	m.at, m.first = x.At, x.First
	if x.Gen > m.gen {
		m.gen = x.Gen
	}
	return 0
}

// numbered is what a From yields, and whether its numbers were one behind the other.
func numbered(t *testing.T, seq iter.Seq2[int, api.Entry], first int) []api.Entry {
	t.Helper()
	var list []api.Entry
	for n, x := range seq {
		if n != first+len(list) {
			t.Fatalf("From: %d, wanted %d", n, first+len(list))
		}
		list = append(list, x)
	}
	return list
}

func agree(t *testing.T, l *scroll.Log, m *plain) {
	t.Helper()
	last, sure, room := m.first-1+len(m.all()), m.first-1+len(m.sure()), m.left()-sectorsOf(m.waiting)
	if l.Last() != last || l.Sure() != sure || l.Room() != room {
		t.Fatalf("Last %d, Sure %d, Room %d, wanted %d, %d, %d", l.Last(), l.Sure(), l.Room(), last, sure, room)
	}
	if !slices.Equal(numbered(t, l.From(m.first), m.first), m.all()) {
		t.Fatal("From")
	}
}

func code(t *testing.T, what string, got, want api.Errno) {
	t.Helper()
	if got != want {
		t.Errorf("%s: %d, wanted %d", what, got, want)
	}
}

// add appends and forces.
func add(t *testing.T, l *scroll.Log, list []api.Entry) {
	t.Helper()
	for _, x := range list {
		want := l.Last() + 1
		if n, e := l.Append(x); n != want || e != 0 {
			t.Fatalf("Append: %d, %d, wanted %d", n, e, want)
		}
	}
	code(t, "Force", l.Force(), 0)
}
