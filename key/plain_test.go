package key_test

import (
	"math"
	"math/rand"
	"slices"
	"strings"
	"testing"

	"seneschal/api"
	"seneschal/key"
	"seneschal/knot"
)

// event is what happened to a client on a page: 'q' it asked, 'd' its request is gone, 'g' it got the lock, 'k' it freed it and kept it shared, 'f' it has it no more, 'b' it said that it is busy, 'c' it was called.
type event struct {
	what   byte
	client int
	x      bool
}

// plain reads the chapter plainly: all that ever happened on each page; what is so now is told from that.
type plain struct {
	past map[int][]event
	said []api.Word
}

func newPlain() *plain {
	return &plain{past: map[int][]event{}}
}

func (m *plain) add(page int, what byte, client int, x bool) {
	m.past[page] = append(m.past[page], event{what, client, x})
}

// since: what happened to a client on a page since it last got or freed the lock, that with it.
func (m *plain) since(client, page int) []event {
	var list []event
	for _, v := range m.past[page] {
		if v.client != client {
			continue
		}
		if strings.IndexByte("gkf", v.what) >= 0 {
			list = nil
		}
		list = append(list, v)
	}
	return list
}

func (m *plain) holds(client, page int) int {
	for _, v := range m.since(client, page) {
		switch {
		case v.what == 'k' || v.what == 'g' && !v.x:
			return 1
		case v.what == 'g':
			return 2
		}
	}
	return 0
}

func (m *plain) busy(client, page int) bool {
	return slices.ContainsFunc(m.since(client, page), func(v event) bool { return v.what == 'b' })
}

// called: 0 not, 1 to let go of its X, 2 to let go of all.
func (m *plain) called(client, page int) int {
	n := 0
	for _, v := range m.since(client, page) {
		switch {
		case v.what == 'c' && v.x:
			n = 2
		case v.what == 'c':
			n = max(n, 1)
		}
	}
	return n
}

// queue: who asked and waits, in order.
func (m *plain) queue(page int) []event {
	var list []event
	for _, v := range m.past[page] {
		switch v.what {
		case 'q':
			list = append(list, v)
		case 'd':
			list = slices.DeleteFunc(list, func(q event) bool { return q.client == v.client })
		}
	}
	return list
}

func (m *plain) waits(client, page int) bool {
	return slices.ContainsFunc(m.queue(page), func(q event) bool { return q.client == client })
}

// inWay: the clients in the way of a request, by rising numbers.
func (m *plain) inWay(q event, page int) []int {
	var list []int
	for client := 1; client <= 8; client++ {
		if has := m.holds(client, page); client != q.client && (has == 2 || has == 1 && q.x) {
			list = append(list, client)
		}
	}
	return list
}

func (m *plain) settle(page int) {
	for {
		queue := m.queue(page)
		if len(queue) == 0 {
			return
		}
		first := queue[0]
		ways := m.inWay(first, page)
		if len(ways) == 0 {
			x := first.x || m.holds(first.client, page) == 2
			m.add(page, 'd', first.client, false)
			m.add(page, 'g', first.client, x)
			m.said = append(m.said, api.Word{Client: first.client, Page: page, X: x})
			continue
		}
		for _, client := range ways {
			if n := m.called(client, page); n == 0 || n == 1 && first.x {
				m.add(page, 'c', client, first.x)
				m.said = append(m.said, api.Word{Call: true, Client: client, Page: page, X: first.x})
			}
		}
		return
	}
}

func (m *plain) ask(client, page int, x bool) api.Errno {
	if client < 1 || client > 8 || page < 0 || page > 1023 {
		return api.ErrArg
	}
	if m.waits(client, page) {
		return api.ErrBusy
	}
	if has := m.holds(client, page); has == 2 || has == 1 && !x {
		m.said = append(m.said, api.Word{Client: client, Page: page, X: has == 2})
		return api.OK
	}
	m.add(page, 'q', client, x)
	m.settle(page)
	return api.OK
}

func (m *plain) free(client, page int, keep bool) api.Errno {
	if m.holds(client, page) == 0 {
		return api.ErrNone
	}
	if keep {
		m.add(page, 'k', client, false)
	} else {
		m.add(page, 'f', client, false)
	}
	m.settle(page)
	return api.OK
}

func (m *plain) sayBusy(client, page int) api.Errno {
	if m.holds(client, page) == 0 {
		return api.ErrNone
	}
	m.add(page, 'b', client, false)
	return api.OK
}

// leave: a client's requests are gone, and if it is all gone, its locks.
func (m *plain) leave(client int, all bool) {
	var pages []int
	for page := range 1024 {
		waits, has := m.waits(client, page), all && m.holds(client, page) > 0
		if waits {
			m.add(page, 'd', client, false)
		}
		if has {
			m.add(page, 'f', client, false)
		}
		if waits || has {
			pages = append(pages, page)
		}
	}
	for _, page := range pages {
		m.settle(page)
	}
}

func (m *plain) of(client int) []int {
	var list []int
	for page := range 1024 {
		if m.holds(client, page) == 2 {
			list = append(list, page)
		}
	}
	return list
}

func (m *plain) edges() []knot.Edge[int] {
	has := map[knot.Edge[int]]int{}
	for page := range m.past {
		queue := m.queue(page)
		for i, q := range queue {
			for _, ahead := range queue[:i] {
				has[knot.Edge[int]{From: q.client, To: ahead.client}]++
			}
			for _, client := range m.inWay(q, page) {
				if m.busy(client, page) {
					has[knot.Edge[int]{From: q.client, To: client}]++
				}
			}
		}
	}
	var list []knot.Edge[int]
	for from := range 9 {
		for to := range 9 {
			if e := (knot.Edge[int]{From: from, To: to}); has[e] > 0 {
				list = append(list, e)
			}
		}
	}
	return list
}

// state tells all that is so now on the first pages.
func (m *plain) state(clients, pages int) string {
	var b strings.Builder
	for page := range pages {
		for client := 1; client <= clients; client++ {
			b.WriteByte(byte('0' + m.holds(client, page)))
			b.WriteByte(byte('0' + m.called(client, page)))
			if m.busy(client, page) {
				b.WriteByte('b')
			}
		}
		for _, q := range m.queue(page) {
			b.WriteByte(byte('0' + q.client))
			if q.x {
				b.WriteByte('x')
			}
		}
		b.WriteByte(' ')
	}
	return b.String()
}

func (m *plain) clone() *plain {
	other := newPlain()
	for page, list := range m.past {
		other.past[page] = slices.Clone(list)
	}
	return other
}

// op is a call: 's' Ask for a shared lock, 'x' Ask for an X, 'k' Free that keeps it shared, 'f' Free, 'b' Busy, 'c' Cancel, 'g' Gone.
type op struct {
	kind         byte
	client, page int
}

func (o op) on(k *key.Table) (e api.Errno) {
	switch o.kind {
	case 's', 'x':
		return k.Ask(o.client, o.page, o.kind == 'x')
	case 'k', 'f':
		return k.Free(o.client, o.page, o.kind == 'k')
	case 'b':
		return k.Busy(o.client, o.page)
	case 'c':
		k.Cancel(o.client)
	default:
		k.Gone(o.client)
	}
	return
}

func (o op) onPlain(m *plain) (e api.Errno) {
	switch o.kind {
	case 's', 'x':
		return m.ask(o.client, o.page, o.kind == 'x')
	case 'k', 'f':
		return m.free(o.client, o.page, o.kind == 'k')
	case 'b':
		return m.sayBusy(o.client, o.page)
	}
	m.leave(o.client, o.kind == 'g')
	return
}

// side is a table and its plain reading.
type side struct {
	t   *testing.T
	k   *key.Table
	m   *plain
	row []op
}

// do does a call to both, and holds what is answered and said against each other.
func (s *side) do(o op) {
	s.t.Helper()
	s.row = append(s.row, o)
	if got, want := o.on(s.k), o.onPlain(s.m); got != want {
		s.t.Fatalf("%s: %d, wanted %d", told(s.row), got, want)
	}
	if got := s.k.Take(); !slices.Equal(got, s.m.said) {
		s.t.Fatalf("%s: said %+v, wanted %+v", told(s.row), got, s.m.said)
	}
	s.m.said = nil
}

// agree: the table tells what its plain reading tells.
func (s *side) agree(clients, pages []int) {
	s.t.Helper()
	for _, client := range clients {
		for _, page := range pages {
			if got, want := s.k.Holds(client, page), s.m.holds(client, page); got != want {
				s.t.Fatalf("%s: Holds(%d, %d): %d, wanted %d", told(s.row), client, page, got, want)
			}
		}
		if got, want := s.k.Of(client), s.m.of(client); !slices.Equal(got, want) {
			s.t.Fatalf("%s: Of(%d): %v, wanted %v", told(s.row), client, got, want)
		}
	}
	if got, want := s.k.Waits(), s.m.edges(); !slices.Equal(got, want) {
		s.t.Fatalf("%s: Waits: %v, wanted %v", told(s.row), got, want)
	}
}

// told tells the last calls of a row.
func told(row []op) string {
	var b strings.Builder
	for _, o := range row[max(0, len(row)-12):] {
		b.WriteString(string(o.kind) + string(rune('0'+o.client)) + " ")
	}
	return b.String()
}

// Each call at each state that three clients can come to on one page.
func TestEachState(t *testing.T) {
	var ops []op
	for client := 1; client <= 3; client++ {
		for _, kind := range []byte("sxkfbcg") {
			ops = append(ops, op{kind, client, 0})
		}
	}
	type state struct {
		row []op
		m   *plain
	}
	seen := map[string]int{newPlain().state(3, 1): 1}
	rows := []state{{nil, newPlain()}}
	for len(rows) > 0 {
		from := rows[0]
		rows = rows[1:]
		for _, o := range ops {
			s := &side{t: t, k: key.New(), m: from.m.clone(), row: slices.Clone(from.row)}
			for _, before := range from.row {
				before.on(s.k)
			}
			s.k.Take()
			s.do(o)
			s.agreeOnPage()
			if name := s.m.state(3, 1); seen[name] == 0 {
				seen[name]++
				rows = append(rows, state{s.row, s.m})
			}
		}
	}
	t.Log(len(seen), "states")
	if len(seen) < 500 {
		t.Errorf("%d states alone", len(seen))
	}
}

// agreeOnPage is agree for three clients on the page 0.
func (s *side) agreeOnPage() {
	s.t.Helper()
	for client := 1; client <= 3; client++ {
		got, want := s.k.Holds(client, 0), s.m.holds(client, 0)
		if got != want || len(s.k.Of(client)) != want/2 {
			s.t.Fatalf("%s: Holds(%d, 0): %d, wanted %d; Of: %v", told(s.row), client, got, want, s.k.Of(client))
		}
	}
	if got, want := s.k.Waits(), s.m.edges(); !slices.Equal(got, want) {
		s.t.Fatalf("%s: Waits: %v, wanted %v", told(s.row), got, want)
	}
}

var wild = []int{math.MinInt, math.MinInt + 1, -1 << 40, -1 << 32, -1024, -8, -2, -1, 0, 1, 2, 7, 8, 9, 10, 255, 256, 257, 1022, 1023, 1024, 1025, 1 << 31, 1 << 32, 1<<32 + 1, math.MaxInt - 1, math.MaxInt}

// Many clients on many pages, and all kinds of numbers.
func TestByChance(t *testing.T) {
	r := rand.New(rand.NewSource(14))
	for k := range 150 {
		s := &side{t: t, k: key.New(), m: newPlain()}
		clients := []int{0, 1, 2, 3, 4, 5, 6, 7, 8, 9}
		pages := []int{0, 1, 7, 255, 256, 1022, 1023}[:1+k%7]
		for i := range 250 {
			s.do(someOp(r, 2+k%7, pages))
			s.alone(pages)
			if i%25 == 0 {
				s.agree(clients, pages)
			}
		}
		s.agree(clients, pages)
	}
}

func someOp(r *rand.Rand, clients int, pages []int) op {
	o := op{kind: "sssxxxxxxffkkkbbb"[r.Intn(17)], client: 1 + r.Intn(clients), page: pages[r.Intn(len(pages))]}
	switch r.Intn(60) {
	case 0:
		o.client = wild[r.Intn(len(wild))]
	case 1:
		o.page = wild[r.Intn(len(wild))]
	case 2:
		o.kind = 'c'
	case 3:
		o.kind = 'g'
	}
	return o
}

// alone: who holds a page as an X is alone there (P14.5).
func (s *side) alone(pages []int) {
	s.t.Helper()
	for _, page := range pages {
		holders, most := 0, 0
		for client := 1; client <= 8; client++ {
			has := s.k.Holds(client, page)
			holders, most = holders+(has+1)/2, max(most, has)
		}
		if most == 2 && holders > 1 {
			s.t.Fatalf("%s: %d hold the page %d beside an X", told(s.row), holders-1, page)
		}
	}
}
