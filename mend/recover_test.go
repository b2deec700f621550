package mend_test

import (
	"math/rand"
	"slices"
	"strings"
	"testing"

	"seneschal/api"
	"seneschal/mend"
	"seneschal/past"
	"seneschal/patch"
	"seneschal/slab"
)

// P18.5

const (
	worldPages   = 4
	worldClients = 3
)

// world is a log as clients make it: a page is changed by one transaction at a time, each change is made on the page as it is, and Lsns rise.
type world struct {
	r       *rand.Rand
	list    []api.Entry
	images  [][]api.Page // of all pages, behind each beginning of the list
	sure    [][]api.Row  // what the committed ones leave, behind each
	locks   [worldPages]int
	clients [worldClients + 1]worldClient
}

// worldClient is a client with its transaction, of which it knows by itself what is to be undone.
type worldClient struct {
	epoch, n int
	at       bool        // a transaction is under way
	lsn      int         // of its last entry
	last     int         // of its transaction's last entry
	to       []api.Entry // its changes that aren't undone
}

func newWorld(r *rand.Rand) *world {
	w := &world{r: r, images: [][]api.Page{make([]api.Page, worldPages)}, sure: [][]api.Row{nil}}
	for client := range w.clients {
		w.clients[client] = worldClient{epoch: 1, lsn: r.Intn(40)}
	}
	return w
}

func (w *world) now() []api.Page { return w.images[len(w.images)-1] }

func (w *world) name(client int) api.Txn {
	return txn(client, w.clients[client].epoch, w.clients[client].n)
}

// write adds an entry, with the page that it leaves, if it is of one.
func (w *world) write(x api.Entry, p api.Page) {
	c := &w.clients[x.Txn.Client]
	c.lsn, c.last = x.Lsn, x.Lsn
	images, sure := slices.Clone(w.now()), w.sure[len(w.sure)-1]
	if x.Kind == api.Change || x.Kind == api.Undo {
		images[x.Page] = p
	}
	if x.Kind == api.Commit {
		sure = w.commits(x.Txn.Client)
	}
	w.list, w.images, w.sure = append(w.list, x), append(w.images, images), append(w.sure, sure)
}

// commits: what is sure behind a Commit: of the pages of this client what they have now, of the others what was sure.
func (w *world) commits(client int) []api.Row {
	sure := slices.DeleteFunc(slices.Clone(w.sure[len(w.sure)-1]), func(row api.Row) bool { return w.locks[row.Page] == client })
	for n, p := range w.now() {
		if w.locks[n] == client {
			for slot, data := range slab.Rows(p) {
				sure = append(sure, api.Row{Page: n, Slot: slot, Data: data})
			}
		}
	}
	slices.SortFunc(sure, func(x, y api.Row) int { return (x.Page-y.Page)*32 + x.Slot - y.Slot })
	return sure
}

// change: a client puts something else at a slot of a page that nobody else has, if there is room.
func (w *world) change(client int) {
	c := &w.clients[client]
	n, slot := w.r.Intn(worldPages), w.r.Intn(4)
	if w.locks[n] != 0 && w.locks[n] != client {
		return
	}
	page := w.now()[n]
	is := api.Slot{}
	if w.r.Intn(4) > 0 {
		is = rec(strings.Repeat(string(rune('a'+w.r.Intn(26))), w.r.Intn(70)))
	}
	p, e := slab.Put(page, slot, is)
	if e != 0 {
		return
	}
	w.locks[n] = client
	p.Lsn = max(page.Lsn, c.lsn) + 1
	x := change(w.name(client), p.Lsn, c.last, n, slot, slab.At(page, slot), is)
	w.write(x, p)
	c.to = append(c.to, x)
}

// undo: a client undoes its newest changes, so many.
func (w *world) undo(client, many int) {
	c := &w.clients[client]
	for range many {
		x := c.to[len(c.to)-1]
		c.to = c.to[:len(c.to)-1]
		page := w.now()[x.Page]
		p, _ := slab.Put(page, x.Slot, x.Was)
		p.Lsn = max(page.Lsn, c.last) + 1
		w.write(undo(x.Txn, p.Lsn, c.last, x.Page, x.Slot, x.Is, x.Was, x.Prev), p)
	}
}

// over: a client's transaction ends, by a Commit or undone.
func (w *world) over(client int, kind int) {
	c := &w.clients[client]
	if c.last > 0 {
		w.write(api.Entry{Kind: kind, Txn: w.name(client), Lsn: c.last + 1, Prev: c.last}, api.Page{})
	}
	c.at, c.last, c.to = false, 0, nil
	for n, has := range w.locks {
		if has == client {
			w.locks[n] = 0
		}
	}
}

func (w *world) play(steps int) {
	for range steps {
		client := 1 + w.r.Intn(worldClients)
		c := &w.clients[client]
		if !c.at {
			c.at = true
			c.n++
			c.lsn += w.r.Intn(3) // what others would number
		}
		switch w.r.Intn(12) {
		case 0, 1:
			w.over(client, api.Commit)
		case 2:
			w.undo(client, len(c.to))
			w.over(client, api.End)
		case 3, 4:
			w.undo(client, w.r.Intn(len(c.to)+1))
		default:
			w.change(client)
		}
	}
}

// versions: all pages, in some order, each of any version behind so many entries, from least to most.
func (w *world) versions(least, most int) []api.Leaf {
	var pages []api.Leaf
	for _, n := range w.r.Perm(worldPages) {
		p := w.images[least+w.r.Intn(most-least+1)][n]
		pages = append(pages, api.Leaf{N: n, Page: api.Page{Lsn: p.Lsn, Slots: slices.Clone(p.Slots)}})
	}
	return pages
}

// leaves: all pages behind so many entries, in the order of others.
func (w *world) leaves(behind int, like []api.Leaf) []api.Leaf {
	var pages []api.Leaf
	for _, l := range like {
		pages = append(pages, api.Leaf{N: l.N, Page: w.images[behind][l.N]})
	}
	return pages
}

// with is the log cut off behind so many entries, and more behind it.
func (w *world) with(cut int, more []api.Entry) *world {
	v := &world{r: w.r, list: slices.Concat(w.list[:cut], more), images: slices.Clone(w.images[:cut+1])}
	for _, x := range more {
		images := slices.Clone(v.now())
		if x.Kind == api.Undo {
			images[x.Page], _, _ = patch.Redo(images[x.Page], x)
		}
		v.images = append(v.images, images)
	}
	return v
}

// restarts: Restart of the log is OK, adds this, leaves these records; it tells what pages it leaves, by their numbers.
func restarts(t *testing.T, list []api.Entry, pages []api.Leaf, sure []api.Row) ([]api.Entry, []api.Leaf) {
	t.Helper()
	added, left, e := mend.Restart(list, pages)
	if e != 0 || !slices.Equal(mend.Rows(left), sure) {
		t.Fatalf("Restart(%v, %v): %v, %v, %d, wanted %v", list, pages, added, left, e, sure)
	}
	if len(past.Read(slices.Concat(list, added), 1).Losers) != 0 {
		t.Fatalf("Restart(%v, %v): %v", list, pages, added)
	}
	slices.SortFunc(left, func(x, y api.Leaf) int { return x.N - y.N })
	return added, left
}

// Wherever the log is cut off, whatever version each page is of: what the committed ones did is left, nothing else; also where what was added, or a beginning of that, is behind the log.
func TestRecovery(t *testing.T) {
	r := rand.New(rand.NewSource(20))
	undone, over := 0, 0
	for range 150 {
		w := newWorld(r)
		w.play(40)
		for cut := range len(w.list) + 1 {
			list := w.list[:cut]
			pages := w.versions(0, cut)
			redoes(t, list, pages, w.leaves(cut, pages), 0)
			added, left := restarts(t, list, pages, w.sure[cut])
			undone, over = undone+len(added), over+len(w.sure[cut])
			v := w.with(cut, added)
			for more := range len(added) + 1 {
				again, left2 := restarts(t, v.list[:cut+more], v.versions(0, cut+more), w.sure[cut])
				if !slices.Equal(again, added[more:]) || !samePages(left, left2) {
					t.Fatalf("behind %d of %v: %v; %v, then %v", more, added, again, left, left2)
				}
			}
		}
	}
	if undone < 5000 || over < 5000 {
		t.Error(undone, over)
	}
}

// A log whose beginning was given back is as good, as long as it has all entries of those that aren't at their end, and the pages have what was ahead of that.
func TestRecoveryBehindACheck(t *testing.T) {
	r := rand.New(rand.NewSource(21))
	for range 150 {
		w := newWorld(r)
		w.play(60)
		for range 20 {
			cut := r.Intn(len(w.list) + 1)
			check := r.Intn(cut + 1)
			first := past.Needed(w.list[:check], 1) - 1
			if first < 0 {
				first = check
			}
			pages := w.versions(check, cut)
			redoes(t, w.list[first:cut], pages, w.leaves(cut, pages), 0)
			restarts(t, w.list[first:cut], pages, w.sure[cut])
		}
	}
}

// What a client that is gone did is undone as the client itself would; the others go on.
func TestClientGone(t *testing.T) {
	r := rand.New(rand.NewSource(22))
	undone := 0
	for range 1500 {
		w := newWorld(r)
		w.play(r.Intn(50))
		client := 1 + r.Intn(worldClients)
		list, pages := slices.Clone(w.list), w.leaves(len(w.list), w.versions(0, 0))
		undone += len(w.clients[client].to)
		w.undo(client, len(w.clients[client].to))
		w.over(client, api.End)
		w.clients[client].epoch++
		undoes(t, list, pages, client, w.list[len(list):], w.leaves(len(w.list), pages))
		if x, ok := mend.Back(w.list, w.name(client), 0); ok {
			t.Fatal(x)
		}
		w.play(r.Intn(20))
		restarts(t, w.list, w.versions(0, len(w.list)), w.sure[len(w.list)])
		if t.Failed() {
			t.FailNow()
		}
	}
	if undone < 1000 {
		t.Error(undone)
	}
}

// Back tells what a client by itself knows to be undone next, down to a savepoint.
func TestBackOfClients(t *testing.T) {
	r := rand.New(rand.NewSource(23))
	for range 1500 {
		w := newWorld(r)
		w.play(r.Intn(30))
		for client := 1; client <= worldClients; client++ {
			c := w.clients[client]
			if !c.at {
				continue
			}
			newest, some := api.Entry{}, len(c.to) > 0
			if some {
				newest = c.to[len(c.to)-1]
			}
			backs(t, w.list, w.name(client), 0, newest, some)
			for i, x := range c.to {
				backs(t, w.list, w.name(client), x.Lsn-1, newest, true)
				if i < len(c.to)-1 {
					backs(t, w.list, w.name(client), x.Lsn, newest, true)
				}
			}
			backs(t, w.list, w.name(client), newest.Lsn, api.Entry{}, false)
			if t.Failed() {
				t.FailNow()
			}
		}
	}
}
