package cord_test

import (
	"math"
	"math/rand"
	"slices"
	"strconv"
	"strings"
	"testing"

	"seneschal/api"
	"seneschal/cord"
)

// plain reads the chapter plainly: all that was ever given to Send, and, of each number, the first text that was taken in.
type plain struct {
	epoch int
	given []string
	acked int
	first map[int]string
	owes  bool
}

func newPlain(epoch int) *plain {
	return &plain{epoch: epoch, first: map[int]string{}}
}

// got: up to which number all texts are there.
func (m *plain) got() int {
	n := 0
	for {
		if _, has := m.first[n+1]; !has {
			return n
		}
		n++
	}
}

func (m *plain) send(body string) api.Errno {
	if len(body) > 16384 {
		return api.ErrLong
	}
	if len(m.given)-m.acked == 32 {
		return api.ErrFull
	}
	m.given = append(m.given, body)
	return api.OK
}

func (m *plain) out() []api.Gram {
	var list []api.Gram
	for n := m.acked + 1; n <= len(m.given); n++ {
		list = append(list, api.Gram{Epoch: m.epoch, Seq: n, Ack: m.got(), Body: m.given[n-1]})
	}
	if len(list) == 0 && m.owes {
		list = []api.Gram{{Epoch: m.epoch, Ack: m.got()}}
	}
	m.owes = false
	return list
}

func (m *plain) wrong(g api.Gram) api.Errno {
	if g.Epoch != m.epoch {
		return api.ErrOld
	}
	if g.Seq < 0 || g.Ack < 0 || g.Ack > len(m.given) || g.Seq > m.got()+32 {
		return api.ErrForm
	}
	if g.Seq == 0 && len(g.Body) > 0 {
		return api.ErrForm
	}
	if len(g.Body) > 16384 {
		return api.ErrLong
	}
	return api.OK
}

func (m *plain) take(g api.Gram) ([]string, api.Errno) {
	if e := m.wrong(g); e != api.OK {
		return nil, e
	}
	if g.Ack > m.acked {
		m.acked = g.Ack
	}
	if g.Seq == 0 {
		return nil, api.OK
	}
	m.owes = true
	got := m.got()
	if _, has := m.first[g.Seq]; !has {
		m.first[g.Seq] = g.Body
	}
	var told []string
	for n := got + 1; n <= m.got(); n++ {
		told = append(told, m.first[n])
	}
	return told, api.OK
}

// op is a call: a Send, an Out, or a Take.
type op struct {
	kind byte
	body string
	gram api.Gram
}

// side is an end and its plain reading.
type side struct {
	t *testing.T
	e *cord.End
	m *plain
}

func newSide(t *testing.T, epoch int) side {
	return side{t, cord.New(epoch), newPlain(epoch)}
}

func (s side) send(body string) {
	s.t.Helper()
	if got, want := s.e.Send(body), s.m.send(body); got != want {
		s.t.Fatalf("Send of %d bytes: %d, wanted %d", len(body), got, want)
	}
	s.same()
}

func (s side) out() []api.Gram {
	s.t.Helper()
	got, want := s.e.Out(), s.m.out()
	if !slices.Equal(got, want) {
		s.t.Fatalf("Out: %s, wanted %s", told(got), told(want))
	}
	s.same()
	return got
}

func (s side) take(g api.Gram) []string {
	s.t.Helper()
	got, e := s.e.Take(g)
	want, f := s.m.take(g)
	if e != f || !slices.Equal(got, want) {
		s.t.Fatalf("Take of %s: %d texts, %d, wanted %d, %d", told([]api.Gram{g}), len(got), e, len(want), f)
	}
	s.same()
	return got
}

// same: what can be asked of the end is as the plain reading has it.
func (s side) same() {
	s.t.Helper()
	if n := s.e.Epoch(); n != s.m.epoch {
		s.t.Fatalf("Epoch: %d, wanted %d", n, s.m.epoch)
	}
	if n, want := s.e.Open(), len(s.m.given)-s.m.acked; n != want {
		s.t.Fatalf("Open: %d, wanted %d", n, want)
	}
	if n, want := s.e.Got(), s.m.got(); n != want {
		s.t.Fatalf("Got: %d, wanted %d", n, want)
	}
	if b, want := s.e.Owes(), s.m.owes || len(s.m.given) > s.m.acked; b != want {
		s.t.Fatalf("Owes: %t", b)
	}
}

func (s side) do(x op) {
	s.t.Helper()
	switch x.kind {
	case 's':
		s.send(x.body)
	case 'o':
		s.out()
	default:
		s.take(x.gram)
	}
}

// told tells datagrams, long texts by their beginning.
func told(list []api.Gram) string {
	var b strings.Builder
	for _, g := range list {
		b.WriteString(" [" + strconv.Itoa(g.Epoch) + " " + strconv.Itoa(g.Seq) + " " + strconv.Itoa(g.Ack) + " ")
		b.WriteString(strconv.Quote(g.Body[:min(len(g.Body), 12)]) + "]")
	}
	return b.String()
}

func ops() []op {
	list := []op{{kind: 's', body: "a"}, {kind: 's'}, {kind: 'o'}}
	for seq := range 4 {
		for ack := range 3 {
			g := api.Gram{Epoch: 3, Seq: seq, Ack: ack, Body: "t" + strconv.Itoa(seq)}
			if seq == 0 {
				g.Body = ""
			}
			list = append(list, op{kind: 't', gram: g})
		}
	}
	list = append(list, op{kind: 't', gram: api.Gram{Epoch: 3, Seq: 1, Body: "other"}})
	list = append(list, op{kind: 't', gram: api.Gram{Epoch: 3, Seq: 2}})
	list = append(list, op{kind: 't', gram: api.Gram{Epoch: 3, Seq: 33, Body: "far"}})
	list = append(list, op{kind: 't', gram: api.Gram{Epoch: 2, Seq: 1, Body: "old"}})
	return list
}

// Each row of four calls, and Out behind it.
func TestRowsOfCalls(t *testing.T) {
	list := ops()
	n := len(list)
	for k := range n * n * n * n {
		s := newSide(t, 3)
		for range 4 {
			s.do(list[k%n])
			k /= n
		}
		s.out()
		s.out()
	}
}

var wild = []int{math.MinInt, math.MinInt + 1, -1 << 40, -33, -32, -2, -1, 0, 1, 2, 31, 32, 33, 34, 63, 64, 65, 1 << 31, 1<<32 + 1, math.MaxInt - 32, math.MaxInt - 31, math.MaxInt - 1, math.MaxInt}

// Datagrams of all kinds of numbers, most of them near what the end has, with texts that are short, or about as long as may be.
func TestAnEndByChance(t *testing.T) {
	r := rand.New(rand.NewSource(12))
	long := strings.Repeat("z", 16385)
	for range 300 {
		s := newSide(t, []int{1, 2, 77, 1<<30 - 1, 1 << 30}[r.Intn(5)])
		sends := 1 + r.Intn(4)
		for range 300 {
			switch k := r.Intn(8); {
			case k < sends && r.Intn(60) == 0:
				s.send(long[r.Intn(3):])
			case k < sends:
				s.send(strconv.Itoa(r.Intn(1000)))
			case k == 7:
				s.out()
			default:
				s.take(someGram(r, s.m, long))
			}
		}
	}
}

func someGram(r *rand.Rand, m *plain, long string) api.Gram {
	g := api.Gram{Client: r.Intn(3), Up: r.Intn(2) == 0, Epoch: m.epoch, Body: strconv.Itoa(r.Intn(1000))}
	g.Seq = max(m.got()-2+r.Intn(6), 0)
	g.Ack = max(len(m.given)-r.Intn(6), 0)
	switch r.Intn(20) {
	case 0:
		g.Seq = m.got() + 30 + r.Intn(5)
	case 1:
		g.Seq = wild[r.Intn(len(wild))]
	case 2:
		g.Ack = wild[r.Intn(len(wild))]
	case 3:
		g.Ack = len(m.given) + r.Intn(3)
	case 4:
		g.Epoch = wild[r.Intn(len(wild))]
	case 5:
		g.Epoch = m.epoch - 1 + r.Intn(3)
	case 6:
		g.Seq, g.Body = 0, ""
	case 7:
		g.Body = long[r.Intn(3):]
	case 8:
		g.Body = ""
	}
	return g
}
