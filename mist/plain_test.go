package mist_test

import (
	"math"
	"math/rand"
	"strconv"
	"strings"
	"testing"

	"seneschal/api"
	"seneschal/mist"
)

// plain reads the chapter plainly: all that was ever put, each with whether it is gone.
type plain struct {
	put  []api.Gram
	gone []bool
}

// under: what was put, by its numbers, that is still under way.
func (m *plain) under() []int {
	var list []int
	for i := range m.put {
		if !m.gone[i] {
			list = append(list, i)
		}
	}
	return list
}

// on: those of them that are on a way.
func (m *plain) on(client int, up bool) []int {
	var list []int
	for _, i := range m.under() {
		if m.put[i].Client == client && m.put[i].Up == up {
			list = append(list, i)
		}
	}
	return list
}

func (m *plain) putOne(g api.Gram) api.Errno {
	if g.Client < 1 || g.Client > 8 {
		return api.ErrArg
	}
	if len(m.on(g.Client, g.Up)) == 64 {
		return api.ErrFull
	}
	m.put, m.gone = append(m.put, g), append(m.gone, false)
	return api.OK
}

func (m *plain) nth(list []int, at int) (int, bool) {
	if at < 0 || at >= len(list) {
		return 0, false
	}
	return list[at], true
}

func (m *plain) takeOf(list []int, at int) (api.Gram, bool) {
	i, ok := m.nth(list, at)
	if !ok {
		return api.Gram{}, false
	}
	m.gone[i] = true
	return m.put[i], true
}

func (m *plain) copyOne(client int, up bool, at int) bool {
	i, ok := m.nth(m.on(client, up), at)
	return ok && m.putOne(m.put[i]) == api.OK
}

func (m *plain) clear(client int) int {
	list := append(m.on(client, false), m.on(client, true)...)
	for _, i := range list {
		m.gone[i] = true
	}
	return len(list)
}

func (m *plain) all() []api.Gram {
	var list []api.Gram
	for _, i := range m.under() {
		list = append(list, m.put[i])
	}
	return list
}

// op is a call: 'p' Put, '-' Pick, '+' Copy, 'e' Eldest, 'c' Clear.
type op struct {
	kind   byte
	client int
	up     bool
	at     int
}

// side is a net and its plain reading; each datagram that is put has another Body.
type side struct {
	t *testing.T
	n *mist.Net
	m *plain
	k int
}

func newSide(t *testing.T) *side {
	return &side{t: t, n: mist.New(), m: &plain{}}
}

// do does a call to both, and holds the answers against each other.
func (s *side) do(o op) {
	s.t.Helper()
	switch o.kind {
	case 'p':
		s.k++
		s.put(api.Gram{Client: o.client, Up: o.up, Epoch: s.k % 3, Seq: s.k, Ack: s.k / 2, Body: strconv.Itoa(s.k)})
	case '+':
		if got, want := s.n.Copy(o.client, o.up, o.at), s.m.copyOne(o.client, o.up, o.at); got != want {
			s.t.Fatalf("Copy(%d, %t, %d): %t", o.client, o.up, o.at, got)
		}
	case '-':
		got, ok := s.n.Pick(o.client, o.up, o.at)
		if want, has := s.m.takeOf(s.m.on(o.client, o.up), o.at); got != want || ok != has {
			s.t.Fatalf("Pick(%d, %t, %d): %+v, %t, wanted %+v, %t", o.client, o.up, o.at, got, ok, want, has)
		}
	case 'e':
		got, ok := s.n.Eldest()
		if want, has := s.m.takeOf(s.m.under(), 0); got != want || ok != has {
			s.t.Fatalf("Eldest: %+v, %t, wanted %+v, %t", got, ok, want, has)
		}
	default:
		if got, want := s.n.Clear(o.client), s.m.clear(o.client); got != want {
			s.t.Fatalf("Clear(%d): %d, wanted %d", o.client, got, want)
		}
	}
}

func (s *side) put(g api.Gram) {
	s.t.Helper()
	if got, want := s.n.Put(g), s.m.putOne(g); got != want {
		s.t.Fatalf("Put of %+v: %d, wanted %d", g, got, want)
	}
}

// agree: the net tells what its plain reading tells, of the ways of these clients.
func (s *side) agree(clients ...int) {
	s.t.Helper()
	under(s.t, s.n, s.m.all()...)
	for _, client := range clients {
		for _, up := range []bool{false, true} {
			if got, want := s.n.Count(client, up), len(s.m.on(client, up)); got != want {
				s.t.Fatalf("Count(%d, %t): %d, wanted %d", client, up, got, want)
			}
		}
	}
}

// drain: all comes, and then there is nothing.
func (s *side) drain() {
	s.t.Helper()
	for range len(s.m.under()) + 1 {
		s.do(op{kind: 'e'})
	}
	under(s.t, s.n)
}

// told tells datagrams, long texts by their beginning.
func told(list []api.Gram) string {
	var b strings.Builder
	for _, g := range list {
		b.WriteString(" [" + strconv.Itoa(g.Client) + " " + strconv.FormatBool(g.Up) + " " + strconv.Quote(g.Body[:min(len(g.Body), 12)]) + "]")
	}
	return b.String()
}

// Each row of three calls, behind each row of three Puts on three ways.
func TestEachRow(t *testing.T) {
	ways := []op{{client: 1, up: true}, {client: 1}, {client: 2, up: true}}
	ops := []op{{kind: 'e'}, {kind: 'c', client: 1}, {kind: 'c', client: 2}}
	for _, w := range ways {
		w.kind = 'p'
		ops = append(ops, w)
		for w.at = range 3 {
			for _, w.kind = range []byte("+-") {
				ops = append(ops, w)
			}
		}
	}
	for k := range 27 * len(ops) * len(ops) * len(ops) {
		s := newSide(t)
		for range 3 {
			w := ways[k%3]
			w.kind = 'p'
			s.do(w)
			k /= 3
		}
		for range 3 {
			s.do(ops[k%len(ops)])
			k /= len(ops)
		}
		s.agree(1, 2)
	}
}

var wild = []int{math.MinInt, math.MinInt + 1, -1 << 40, -1 << 32, -9, -8, -2, -1, 0, 1, 2, 7, 8, 9, 10, 63, 64, 65, 255, 256, 257, 1 << 31, 1 << 32, 1<<32 + 1, math.MaxInt - 1, math.MaxInt}

// Many on all ways, up to full ones, and all kinds of numbers.
func TestByChance(t *testing.T) {
	r := rand.New(rand.NewSource(13))
	all := []int{0, 1, 2, 3, 4, 5, 6, 7, 8, 9}
	for k := range 120 {
		s := newSide(t)
		clients, puts := 1+r.Intn(8), 3+k%8
		for i := range 600 {
			s.do(someOp(r, s, clients, puts))
			if i%20 == 0 {
				s.agree(all...)
			}
		}
		s.agree(all...)
		s.drain()
	}
}

func someOp(r *rand.Rand, s *side, clients, puts int) op {
	o := op{client: 1 + r.Intn(clients), up: r.Intn(2) == 0}
	o.at = r.Intn(len(s.m.on(o.client, o.up)) + 1)
	switch r.Intn(30) {
	case 0:
		o.client = wild[r.Intn(len(wild))]
	case 1:
		o.at = wild[r.Intn(len(wild))]
	case 2:
		o.at = 0
	}
	switch k := r.Intn(12); {
	case k < puts:
		o.kind = "pppp+"[r.Intn(5)]
	case r.Intn(20) == 0:
		o.kind = 'c'
	default:
		o.kind = "--e"[r.Intn(3)]
	}
	return o
}
