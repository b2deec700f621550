package ring_test

import (
	"math/rand"
	"slices"
	"testing"

	"seneschal/ring"
)

// frame is what the plain reading knows of a frame.
type frame struct {
	used           bool
	key, val, pins int
	fresh          bool
}

// plain reads the chapter plainly.
type plain struct {
	frames []frame
	hand   int
}

type out = ring.Out[int, int]

func newPlain(frames int) *plain {
	if frames < 1 {
		frames = 1
	}
	if frames > 64 {
		frames = 64
	}
	return &plain{frames: make([]frame, frames)}
}

func (m *plain) clone() *plain {
	return &plain{slices.Clone(m.frames), m.hand}
}

// state tells all that a later call could tell, but the values.
func (m *plain) state() string {
	b := []byte{byte(m.hand)}
	for _, x := range m.frames {
		if !x.used {
			b = append(b, "-"...)
			continue
		}
		b = append(b, '+', byte(x.key), byte(x.pins), 'f')
		if !x.fresh {
			b[len(b)-1] = 's'
		}
	}
	return string(b)
}

// at is the frame of a key, or nil.
func (m *plain) at(k int) *frame {
	for i := range m.frames {
		if m.frames[i].used && m.frames[i].key == k {
			return &m.frames[i]
		}
	}
	return nil
}

// round is all frames, by their numbers, in the order in which the hand comes to them.
func (m *plain) round() []int {
	var list []int
	for i := range m.frames {
		list = append(list, (m.hand+i)%len(m.frames))
	}
	return list
}

// leaves is the frame that is made free, if all have things: the first one, from the hand on, whose thing is neither pinned nor fresh; if there is none, the hand comes round, and all that aren't pinned are fresh no more.
func (m *plain) leaves() int {
	for i, n := range m.round() {
		x := m.frames[n]
		if x.pins > 0 || x.fresh {
			continue
		}
		for _, n := range m.round()[:i] {
			m.tire(n)
		}
		return n
	}
	for n := range m.frames {
		m.tire(n)
	}
	for _, n := range m.round() {
		if m.frames[n].pins == 0 {
			return n
		}
	}
	return -1
}

func (m *plain) tire(n int) {
	if m.frames[n].pins == 0 {
		m.frames[n].fresh = false
	}
}

func (m *plain) put(k, v int) (out, bool) {
	if x := m.at(k); x != nil {
		x.val, x.fresh = v, true
		return out{}, true
	}
	put := frame{true, k, v, 0, true}
	for n := range m.frames {
		if !m.frames[n].used {
			m.frames[n] = put
			return out{}, true
		}
	}
	n := m.leaves()
	if n < 0 {
		return out{}, false
	}
	gone := out{m.frames[n].key, m.frames[n].val, true}
	m.frames[n] = put
	m.hand = n + 1
	if m.hand == len(m.frames) {
		m.hand = 0
	}
	return gone, true
}

func (m *plain) get(k int) (int, bool) {
	x := m.at(k)
	if x == nil {
		return 0, false
	}
	x.fresh = true
	return x.val, true
}

func (m *plain) del(k int) (int, bool) {
	x := m.at(k)
	if x == nil {
		return 0, false
	}
	v := x.val
	*x = frame{}
	return v, true
}

func (m *plain) pin(k int) bool {
	x := m.at(k)
	if x == nil {
		return false
	}
	x.pins++
	return true
}

func (m *plain) let(k int) bool {
	x := m.at(k)
	if x == nil || x.pins == 0 {
		return false
	}
	x.pins--
	return true
}

func (m *plain) all() []pair[int, int] {
	var list []pair[int, int]
	for _, x := range m.frames {
		if x.used {
			list = append(list, pair[int, int]{x.key, x.val})
		}
	}
	return list
}

// pair is what a going over a ring yields.
type pair[K comparable, V any] struct {
	k K
	v V
}

func all[K comparable, V any](r *ring.Ring[K, V]) []pair[K, V] {
	var list []pair[K, V]
	for k, v := range r.All() {
		list = append(list, pair[K, V]{k, v})
	}
	return list
}

// The kinds of what is done to a ring.
const (
	put = iota
	get
	del
	pin
	let
	kinds
)

type op struct{ kind, key, val int }

// answer is all that a call may answer.
type answer struct {
	out out
	val int
	ok  bool
}

func (o op) do(r *ring.Ring[int, int]) (a answer) {
	switch o.kind {
	case put:
		a.out, a.ok = r.Put(o.key, o.val)
	case get:
		a.val, a.ok = r.Get(o.key)
	case del:
		a.val, a.ok = r.Del(o.key)
	case pin:
		a.ok = r.Pin(o.key)
	case let:
		a.ok = r.Let(o.key)
	}
	return a
}

func (o op) plainly(m *plain) (a answer) {
	switch o.kind {
	case put:
		a.out, a.ok = m.put(o.key, o.val)
	case get:
		a.val, a.ok = m.get(o.key)
	case del:
		a.val, a.ok = m.del(o.key)
	case pin:
		a.ok = m.pin(o.key)
	case let:
		a.ok = m.let(o.key)
	}
	return a
}

// both does something to a ring and to its plain reading, and holds the answers against each other.
func both(t *testing.T, r *ring.Ring[int, int], m *plain, o op) {
	t.Helper()
	got, want := o.do(r), o.plainly(m)
	if got != want {
		t.Fatalf("%+v: %+v, wanted %+v", o, got, want)
	}
}

// agree: what is at hand is that of the plain reading.
func agree(t *testing.T, r *ring.Ring[int, int], m *plain) {
	t.Helper()
	got, want := all(r), m.all()
	if !slices.Equal(got, want) || r.Len() != len(want) {
		t.Fatalf("%d things: %v, wanted %v", r.Len(), got, want)
	}
	for _, x := range want {
		if n := m.at(x.k).pins; r.Pins(x.k) != n {
			t.Fatalf("Pins(%d): %d, wanted %d", x.k, r.Pins(x.k), n)
		}
	}
}

// probe does to a ring what brings to light where the hand is, and what is fresh; the ring is another one then.
func probe(t *testing.T, r *ring.Ring[int, int], m *plain) {
	t.Helper()
	agree(t, r, m)
	for i := range m.frames {
		both(t, r, m, op{put, 100 + i, 1000 + i})
	}
	for _, x := range m.all() {
		for m.at(x.k).pins > 0 {
			both(t, r, m, op{let, x.k, 0})
		}
	}
	for i := range m.frames {
		both(t, r, m, op{put, 200 + i, 2000 + i})
	}
	agree(t, r, m)
}

// ways is how a ring of so many frames comes to each of the states that there are with so many keys, pinned so often at most.
func ways(frames, keys, pins int) [][]op {
	type node struct {
		m   *plain
		way []op
	}
	queue := []node{{m: newPlain(frames)}}
	seen := map[string]bool{queue[0].m.state(): true}
	var list [][]op
	for len(queue) > 0 {
		x := queue[0]
		queue = queue[1:]
		list = append(list, x.way)
		for _, o := range ops(keys, 10*len(x.way)) {
			if y := x.m.at(o.key); o.kind == pin && y != nil && y.pins == pins {
				continue
			}
			m := x.m.clone()
			o.plainly(m)
			if s := m.state(); !seen[s] {
				seen[s] = true
				queue = append(queue, node{m, append(slices.Clone(x.way), o)})
			}
		}
	}
	return list
}

// ops is all that can be done with so many keys.
func ops(keys, val int) []op {
	var list []op
	for kind := range kinds {
		for k := range keys {
			o := op{kind: kind, key: k}
			if kind == put {
				o.val = val + k + 1
			}
			list = append(list, o)
		}
	}
	return list
}

// P9.2, P9.3: from each state of small rings, each call.
func TestEachState(t *testing.T) {
	for _, c := range []struct{ frames, keys, pins, atLeast int }{
		{1, 2, 3, 9},
		{2, 3, 2, 100},
		{2, 4, 1, 100},
		{3, 4, 1, 1000},
	} {
		list := ways(c.frames, c.keys, c.pins)
		if len(list) < c.atLeast {
			t.Fatal(c, len(list))
		}
		for _, way := range list {
			for _, o := range ops(c.keys, 7777) {
				r, m := ring.New[int, int](c.frames), newPlain(c.frames)
				for _, x := range way {
					both(t, r, m, x)
				}
				both(t, r, m, o)
				probe(t, r, m)
			}
		}
	}
}

// P9.2, P9.3: rings of all sizes, by chance.
func TestByChance(t *testing.T) {
	rnd := rand.New(rand.NewSource(9))
	for run := range 400 {
		frames := rnd.Intn(70) - 2
		if run%3 == 0 {
			frames = rnd.Intn(6)
		}
		r, m := ring.New[int, int](frames), newPlain(frames)
		keys := 1 + rnd.Intn(2*len(m.frames)+2)
		weights := [kinds]int{1 + rnd.Intn(9), rnd.Intn(9), rnd.Intn(3), rnd.Intn(4), rnd.Intn(4)}
		for step := range 300 {
			both(t, r, m, op{pick(rnd, weights), rnd.Intn(keys), step})
			if step%10 == 0 {
				agree(t, r, m)
			}
		}
		probe(t, r, m)
	}
}

func pick(rnd *rand.Rand, weights [kinds]int) int {
	sum := 0
	for _, w := range weights {
		sum += w
	}
	n := rnd.Intn(sum)
	for kind, w := range weights {
		if n < w {
			return kind
		}
		n -= w
	}
	return put
}

// P9.4, with what the calls themselves answer.
func TestWhatIsAtHand(t *testing.T) {
	rnd := rand.New(rand.NewSource(94))
	for range 100 {
		frames := 1 + rnd.Intn(12)
		r := ring.New[int, int](frames)
		vals, pins := map[int]int{}, map[int]int{}
		for step := range 500 {
			k := rnd.Intn(2 * frames)
			switch _, has := vals[k]; rnd.Intn(8) {
			case 0, 1, 2, 3:
				o, ok := r.Put(k, step)
				if o.Gone {
					if vals[o.Key] != o.Val || pins[o.Key] > 0 || has {
						t.Fatal("left", o, pins[o.Key], has)
					}
					delete(vals, o.Key)
					delete(pins, o.Key)
				}
				if ok {
					vals[k] = step
				} else if o != (out{}) || has || len(vals) < frames || len(pins) < frames {
					t.Fatal("refused", o, has, len(vals), len(pins))
				}
			case 4:
				if v, ok := r.Get(k); ok != has || v != vals[k] {
					t.Fatal("Get", v, ok, vals[k], has)
				}
			case 5:
				if v, ok := r.Del(k); ok != has || v != vals[k] {
					t.Fatal("Del", v, ok, vals[k], has)
				}
				delete(vals, k)
				delete(pins, k)
			case 6:
				if r.Pin(k) != has {
					t.Fatal("Pin", has)
				}
				if has {
					pins[k]++
				}
			case 7:
				if r.Let(k) != (pins[k] > 0) {
					t.Fatal("Let", pins[k])
				}
				if pins[k]--; pins[k] <= 0 {
					delete(pins, k)
				}
			}
			if r.Len() != len(vals) || len(vals) > frames {
				t.Fatal(r.Len(), len(vals), frames)
			}
			for _, x := range all(r) {
				if v, has := vals[x.k]; !has || v != x.v || r.Pins(x.k) != pins[x.k] {
					t.Fatal(x, v, has, pins[x.k])
				}
			}
		}
	}
}
