package vat_test

import (
	"math/rand"
	"slices"
	"strings"
	"testing"

	"seneschal/api"
	"seneschal/mend"
	"seneschal/plate"
	"seneschal/slab"
	"seneschal/vat"
)

// P19.6

const worldClients = 3

// scene is what clients know of a store: the pages as all that was added leaves them, who changes which, and what the committed ones leave.
type scene struct {
	now     []api.Page
	locks   []int // of each page the client whose transaction changed it
	clients [worldClients + 1]actor
	names   []api.Txn   // those that were committed since the store was opened
	left    [][]api.Row // what each leaves; ahead of that, what was there
}

// actor is a client with its transaction, of which it knows by itself what is to be undone.
type actor struct {
	epoch, n int
	lsn      int // of its last entry
	last     int // of its transaction's last entry, 0: it has none
	to       []api.Entry
}

func (s *scene) clone() *scene {
	c := *s
	c.now, c.locks = slices.Clone(s.now), slices.Clone(s.locks)
	c.names, c.left = slices.Clone(s.names), slices.Clone(s.left)
	for i := range c.clients {
		c.clients[i].to = slices.Clone(s.clients[i].to)
	}
	return &c
}

func (s *scene) name(client int) api.Txn {
	return txn(client, s.clients[client].epoch, s.clients[client].n)
}

func (s *scene) leaves() []api.Leaf {
	var leaves []api.Leaf
	for n, p := range s.now {
		leaves = append(leaves, api.Leaf{N: n, Page: p})
	}
	return leaves
}

func (s *scene) due() int {
	due := 0
	for _, c := range s.clients {
		if c.last > 0 {
			due += 2 + 3*len(c.to)
		}
	}
	return due
}

func (s *scene) wrote(x api.Entry) api.Entry {
	c := &s.clients[x.Txn.Client]
	c.lsn, c.last = x.Lsn, x.Lsn
	return x
}

// change: a client puts something else at a slot of a page that nobody else has, if there is room.
func (s *scene) change(r *rand.Rand, client int) []api.Entry {
	c := &s.clients[client]
	n, slot := r.Intn(len(s.now)), r.Intn(4)
	if s.locks[n] != 0 && s.locks[n] != client {
		return nil
	}
	is := none
	if r.Intn(4) > 0 {
		is = long(string(rune('a'+r.Intn(26))), r.Intn(70)*r.Intn(2)+r.Intn(5))
	}
	page := s.now[n]
	p, e := slab.Put(page, slot, is)
	if e != 0 {
		return nil
	}
	s.locks[n] = client
	p.Lsn = max(page.Lsn, c.lsn) + 1
	x := s.wrote(change(s.name(client), p.Lsn, c.last, n, slot, slab.At(page, slot), is))
	s.now[n] = p
	c.to = append(c.to, x)
	return []api.Entry{x}
}

// undo: a client undoes its newest changes, so many.
func (s *scene) undo(client, many int) []api.Entry {
	c := &s.clients[client]
	var list []api.Entry
	for range many {
		x := c.to[len(c.to)-1]
		c.to = c.to[:len(c.to)-1]
		page := s.now[x.Page]
		p, _ := slab.Put(page, x.Slot, x.Was)
		p.Lsn = max(page.Lsn, c.last) + 1
		list = append(list, s.wrote(undo(x.Txn, p.Lsn, c.last, x.Page, x.Slot, x.Is, x.Was, x.Prev)))
		s.now[x.Page] = p
	}
	return list
}

// over: a client's transaction ends, by a Commit or undone, and the next one begins.
func (s *scene) over(client, kind int) []api.Entry {
	c := &s.clients[client]
	var list []api.Entry
	if c.last > 0 {
		list = append(list, s.wrote(api.Entry{Kind: kind, Txn: s.name(client), Lsn: c.last + 1, Prev: c.last}))
	}
	if kind == api.Commit && c.last > 0 {
		s.names, s.left = append(s.names, s.name(client)), append(s.left, s.rows(client))
	}
	for n, has := range s.locks {
		if has == client {
			s.locks[n] = 0
		}
	}
	c.n, c.last, c.to = c.n+1, 0, nil
	return list
}

// rows: what is left behind the Commit of a client: of the pages that it changed what they have now, of the others what was left.
func (s *scene) rows(client int) []api.Row {
	rows := slices.DeleteFunc(slices.Clone(s.left[len(s.left)-1]), func(x api.Row) bool { return s.locks[x.Page] == client })
	for n, p := range s.now {
		if s.locks[n] == client {
			rows = append(rows, mend.Rows([]api.Leaf{{N: n, Page: p}})...)
		}
	}
	slices.SortFunc(rows, func(x, y api.Row) int { return (x.Page-y.Page)*32 + x.Slot - y.Slot })
	return rows
}

func (s *scene) act(r *rand.Rand) []api.Entry {
	client := 1 + r.Intn(worldClients)
	todo := len(s.clients[client].to)
	switch r.Intn(14) {
	case 0, 1:
		return s.over(client, api.Commit)
	case 2:
		return append(s.undo(client, todo), s.over(client, api.End)...)
	case 3:
		return s.undo(client, r.Intn(todo+1))
	}
	return s.change(r, client)
}

// world is a store, and what clients do with it.
type world struct {
	t      *testing.T
	r      *rand.Rand
	conf   api.Config
	d      *plate.Plate
	v      *vat.Vat
	scene  *scene
	told   []api.Txn // that ever were, ahead of this store
	forced int       // how many of the scene's names are sure, as a Force or a Check that was OK says
	kinds  map[string]int
}

func newWorld(t *testing.T, r *rand.Rand) *world {
	conf := api.Config{Pages: 1 + r.Intn(7), Log: 20 + r.Intn(40), Pool: 1 + r.Intn(4)}
	w := &world{t: t, r: r, conf: conf, d: plate.New(vat.Need(conf)), kinds: map[string]int{}}
	w.v = opens(t, w.d, conf)
	w.scene = &scene{now: make([]api.Page, conf.Pages), locks: make([]int, conf.Pages), left: [][]api.Row{nil}}
	for i := range w.scene.clients {
		w.scene.clients[i] = actor{epoch: 1, n: 1, lsn: r.Intn(40)}
	}
	return w
}

// holds: the store tells what the scene does.
func (w *world) holds() {
	w.t.Helper()
	leaves, e := w.v.Leaves()
	s := w.v.Sure()
	switch {
	case e != 0 || !sameLeaves(leaves, w.scene.leaves()):
		w.t.Fatalf("%v, %d, wanted %v", leaves, e, w.scene.leaves())
	case w.v.Due() != w.scene.due() || w.v.Room() < w.v.Due():
		w.t.Fatalf("Due %d, wanted %d; Room %d", w.v.Due(), w.scene.due(), w.v.Room())
	case len(s) < w.forced || len(s) > len(w.scene.names) || !slices.Equal(s, w.scene.names[:len(s)]):
		w.t.Fatalf("Sure: %v, wanted %d at least of %v", s, w.forced, w.scene.names)
	}
}

// add: some of what clients do comes to the store at once.
func (w *world) add() api.Errno {
	next := w.scene.clone()
	var list []api.Entry
	for range 1 + w.r.Intn(6) {
		list = append(list, next.act(w.r)...)
	}
	e := w.v.Add(list)
	switch e {
	case 0, api.ErrDown: // cut off, the list may be there all the same
		w.scene = next
	case api.ErrFull:
		w.kinds["full"]++
		w.holds()
		if w.r.Intn(2) == 0 {
			return w.check()
		}
		return w.giveUp(1 + w.r.Intn(worldClients))
	}
	return e
}

// giveUp: a client undoes all; there is room for that.
func (w *world) giveUp(client int) api.Errno {
	next := w.scene.clone()
	list := append(next.undo(client, len(next.clients[client].to)), next.over(client, api.End)...)
	for len(list) > 0 {
		n := 1 + w.r.Intn(len(list))
		if e := w.v.Add(list[:n]); e != 0 {
			return e
		}
		list = list[n:]
		if w.r.Intn(2) == 0 {
			if e := w.v.Force(); e != 0 {
				return e
			}
		}
		if w.v.Room() < w.v.Due() {
			w.t.Fatal(w.v.Room(), w.v.Due())
		}
	}
	w.scene = next
	return 0
}

func (w *world) check() api.Errno {
	e := w.v.Check()
	if e == 0 {
		w.forced = len(w.scene.names)
	}
	return e
}

func (w *world) force() api.Errno {
	e := w.v.Force()
	if e == 0 {
		w.forced = len(w.scene.names)
	}
	return e
}

// lose: a client is gone; what it hadn't ended is undone as it would do that itself.
func (w *world) lose(client int) api.Errno {
	next := w.scene.clone()
	want := append(next.undo(client, len(next.clients[client].to)), next.over(client, api.End)...)
	next.clients[client].epoch++
	list, e := w.v.Undo(client)
	if e == 0 {
		if !slices.Equal(list, want) {
			w.t.Fatalf("Undo: %v, wanted %v", list, want)
		}
		w.scene = next
	}
	return e
}

func (w *world) page() api.Errno {
	n := w.r.Intn(w.conf.Pages)
	p, e := w.v.Page(n)
	if e == 0 && !samePage(p, w.scene.now[n]) {
		w.t.Fatalf("Page(%d): %v", n, p)
	}
	return e
}

// step does something; false: the power has gone.
func (w *world) step() bool {
	var e api.Errno
	switch w.r.Intn(16) {
	case 0, 1:
		e = w.force()
	case 2:
		e = w.check()
	case 3:
		e = w.lose(1 + w.r.Intn(worldClients))
	case 4, 5:
		e = w.page()
	case 6:
		if w.r.Intn(4) == 0 {
			w.d.Off()
			return false
		}
	default:
		e = w.add()
	}
	if e != 0 && e != api.ErrDown {
		w.t.Fatal(e)
	}
	return e == 0
}

// joined: names, each once, in the order in which they came.
func joined(names, more []api.Txn) []api.Txn {
	for _, t := range more {
		if !slices.Contains(names, t) {
			names = append(names, t)
		}
	}
	return names
}

func (w *world) fates() []int {
	fates := make([]int, w.r.Intn(6))
	for i := range fates {
		fates[i] = w.r.Intn(9) - 3
	}
	return fates
}

// recover opens the store, however often that is cut off: it holds what those leave that were ever told.
func (w *world) recover() {
	w.t.Helper()
	told := joined(slices.Clone(w.told), w.v.Sure())
	for {
		w.d.On(w.fates())
		if w.r.Intn(3) > 0 {
			w.d.Arm(1 + w.r.Intn(25))
		}
		v, done, e := vat.Open(w.d, w.conf)
		told = joined(told, done)
		if e == 0 {
			w.v = v
			break
		}
		w.kinds["opens"]++
		if e != api.ErrDown || v != nil {
			w.t.Fatalf("Open: %d", e)
		}
	}
	w.d.Arm(0)
	n := len(told) - len(w.told)
	if n < w.forced || n > len(w.scene.names) || !slices.Equal(told, append(slices.Clone(w.told), w.scene.names[:n]...)) {
		w.t.Fatalf("told are %v; %v ahead of that, then %v, of which %d are sure", told, w.told, w.scene.names, w.forced)
	}
	if n > w.forced {
		w.kinds["more"]++
	}
	if n < len(w.scene.names) {
		w.kinds["fewer"]++
	}
	has(w.t, w.v, w.scene.left[n]...)
	leaves, _ := w.v.Leaves()
	left := w.scene.left[n]
	w.scene = &scene{locks: make([]int, w.conf.Pages), left: [][]api.Row{left}, clients: w.scene.clients}
	for _, l := range leaves {
		w.scene.now = append(w.scene.now, l.Page)
	}
	for i := range w.scene.clients {
		c := &w.scene.clients[i]
		*c = actor{epoch: c.epoch + 1, n: 1, lsn: c.lsn}
	}
	w.told, w.forced = told, 0
	w.holds()
}

func TestPowerByChance(t *testing.T) {
	r := rand.New(rand.NewSource(6))
	kinds := map[string]int{}
	for range 150 {
		w := newWorld(t, r)
		w.kinds = kinds
		for range 12 {
			if r.Intn(3) > 0 {
				w.d.Arm(1 + r.Intn(200))
			}
			for k := 0; k < 60 && w.step(); k++ {
				w.holds()
			}
			w.d.Off()
			w.recover()
		}
	}
	for kind, least := range map[string]int{"full": 100, "opens": 500, "more": 100, "fewer": 100} {
		if kinds[kind] < least {
			t.Error("too few of a kind", kind, kinds)
		}
	}
}

// With no power that goes: each record is there, whatever the layout.
func TestLayouts(t *testing.T) {
	for _, conf := range []api.Config{
		{Pages: 1, Log: 16, Pool: 1}, {Pages: 1, Log: 16, Pool: 64}, {Pages: 70, Log: 40, Pool: 64}, {Pages: 70, Log: 40, Pool: 3}, {Pages: 1024, Log: 4096, Pool: 64},
	} {
		d := plate.New(vat.Need(conf) + 1)
		v := opens(t, d, conf)
		var want []api.Row
		for n := range conf.Pages {
			x := txn(1+n%8, 1, n+1)
			y := row(n, strings.Repeat("x", n%200))
			want = append(want, y)
			list := []api.Entry{change(x, n+1, 0, n, 0, none, rec(y.Data)), commit(x, n+2, n+1)}
			if e := v.Add(list); e == api.ErrFull {
				check(t, v)
				add(t, v, 0, list...)
			}
		}
		has(t, v, want...)
		check(t, v)
		cycle(d)
		has(t, opens(t, d, conf), want...)
	}
}
