package desk_test

import (
	"math/rand"
	"reflect"
	"slices"
	"strings"
	"testing"

	"seneschal/api"
	"seneschal/desk"
	"seneschal/entry"
	"seneschal/key"
	"seneschal/knot"
	"seneschal/mend"
	"seneschal/note"
	"seneschal/past"
	"seneschal/patch"
	"seneschal/purse"
	"seneschal/slab"
)

const (
	worldClients = 4
	worldPages   = 5
)

// world is some clients and an honest server, with messages under way between them. It refuses nothing silently.
type world struct {
	t       *testing.T
	r       *rand.Rand
	clients [worldClients + 1]actor
	table   *key.Table
	purse   *purse.Purse[int]
	pages   []api.Leaf
	log     []api.Entry // none of it is ever given back
	first   int         // where the log begins that still takes room
	size    int         // of the log, in sectors
	done    []api.Txn
	told    map[api.Txn][]answered
	replies map[api.Errno]int
}

// actor is a client, what its application knows, and what the server knows of it.
type actor struct {
	d        *desk.Desk
	epoch    int
	up, down []api.Msg
	call     api.Call // the one that waits
	of       api.Txn  // its transaction
	begins   bool     // it waits to be in one
	needs    map[int]bool
	ended    map[api.Txn]bool
	saves    int
}

type answered struct {
	call  api.Call
	reply api.Reply
}

func newWorld(t *testing.T, seed int64) *world {
	r := rand.New(rand.NewSource(seed))
	w := &world{t: t, r: r, size: 12 + r.Intn(60), told: map[api.Txn][]answered{}, replies: map[api.Errno]int{}}
	for n := range worldPages {
		w.pages = append(w.pages, api.Leaf{N: n})
	}
	for k := 1; k <= worldClients; k++ {
		w.clients[k].epoch = k
		w.clients[k].d = w.desk(k)
	}
	w.anew()
	return w
}

func (w *world) desk(client int) *desk.Desk {
	return desk.New(client, w.clients[client].epoch, api.Config{Pages: worldPages, Cache: 1 + w.r.Intn(worldPages), First: 3 * client})
}

// anew: the server begins; what waited is lost.
func (w *world) anew() {
	w.table, w.purse = key.New(), purse.New[int]()
	for k := range w.clients {
		w.welcome(k)
	}
}

func (w *world) welcome(client int) {
	c := &w.clients[client]
	c.up, c.down, c.needs, c.ended = nil, nil, map[int]bool{}, map[api.Txn]bool{}
}

// used: how much of the log is in use, and how much is due to the losers.
func (w *world) used() (int, int) {
	used, due := 0, 0
	for _, x := range w.log[w.first:] {
		used += entry.Cost(x)
	}
	for _, l := range past.Read(w.log[w.first:], 1).Losers {
		due += 2
		list := past.Of(w.log[w.first:], l.Txn)
		for {
			x, ok := mend.Back(list, l.Txn, 0)
			if !ok {
				break
			}
			due += 3
			list = list[:slices.IndexFunc(list, func(y api.Entry) bool { return y.Lsn == x.Lsn })]
		}
	}
	return used, due
}

func (w *world) free() int {
	used, due := w.used()
	return w.size - used - due
}

func (w *world) check() {
	if n := past.Needed(w.log[w.first:], 1); n > 0 {
		w.first += n - 1
		return
	}
	w.first = len(w.log)
}

func (w *world) say(client int, m api.Msg) {
	w.clients[client].down = append(w.clients[client].down, m)
}

func (w *world) speak() {
	for {
		for _, x := range w.table.Take() {
			m := api.Msg{Kind: api.MsgCall, Page: x.Page, X: x.X}
			if !x.Call {
				m.Kind = api.MsgGrant
				if m.Need = w.clients[x.Client].needs[x.Page]; m.Need {
					p := w.pages[x.Page].Page
					m.Image = api.Page{Lsn: p.Lsn, Slots: slices.Clone(p.Slots)}
				}
				delete(w.clients[x.Client].needs, x.Page)
			}
			w.say(x.Client, m)
		}
		v, ok := knot.Victim(w.table.Waits())
		if !ok {
			return
		}
		w.say(v, victim)
		w.table.Cancel(v)
	}
}

// takes: the server takes a message in. It never has to refuse it.
func (w *world) takes(client int, m api.Msg) {
	w.t.Helper()
	c := &w.clients[client]
	right := note.Good(m)
	switch m.Kind {
	case api.MsgLock:
		c.needs[m.Page] = c.needs[m.Page] || m.Need
		right = right && w.table.Ask(client, m.Page, m.X) == 0
		w.speak()
	case api.MsgFree:
		right = right && w.table.Free(client, m.Page, m.X) == 0
		w.speak()
	case api.MsgInUse:
		right = right && w.table.Busy(client, m.Page) == 0
		w.speak()
	case api.MsgLog:
		for _, x := range m.Entries {
			right = right && w.enters(client, x)
		}
	case api.MsgImage:
		right = right && w.table.Holds(client, m.Page) == 2 && reflect.DeepEqual(bare(m).Image, bare(api.Msg{Image: w.pages[m.Page].Page}).Image)
	case api.MsgCommit:
		right = right && slices.Contains(w.done, m.Txn)
		w.say(client, sure(m.Txn))
	case api.MsgSpace:
		if !w.purse.Ask(client, m.N, w.free()) {
			w.check()
			if !w.purse.Ask(client, m.N, w.free()) {
				m.N = 0
			}
		}
		w.say(client, room(m.N))
	case api.MsgSpare:
		right = right && w.purse.Take(client, m.N) == m.N
	}
	if !right {
		w.t.Fatalf("refused of %d: %+v", client, m)
	}
}

// enters: an entry comes to the log, and to its page; what it needs was promised.
func (w *world) enters(client int, x api.Entry) bool {
	c := &w.clients[client]
	if x.Txn.Client != client || x.Txn.Epoch != c.epoch || c.ended[x.Txn] {
		return false
	}
	need := 0
	if len(past.Of(w.log[w.first:], x.Txn)) == 0 {
		need = 2
	}
	switch x.Kind {
	case api.Change:
		need += entry.Cost(x) + 3
		fallthrough
	case api.Undo:
		p, done, e := patch.Redo(w.pages[x.Page].Page, x)
		if w.table.Holds(client, x.Page) != 2 || !done || e != 0 {
			return false
		}
		w.pages[x.Page].Page = p
	case api.Commit:
		w.done = append(w.done, x.Txn)
		fallthrough
	case api.End:
		c.ended[x.Txn] = true
	}
	w.log = append(w.log, x)
	if w.purse.Take(client, need) != need {
		return false
	}
	if c.ended[x.Txn] {
		w.purse.Take(client, 1<<20)
	}
	return w.free() >= w.purse.Sum()
}

// undo: the server undoes what a client, or all of them, had not ended.
func (w *world) undo(client int) {
	added, pages, e := mend.Undo(w.log, w.pages, client)
	if e != 0 {
		w.t.Fatalf("Undo: %d", e)
	}
	w.log, w.pages = append(w.log, added...), pages
}

// crash: a client is gone, and is there anew.
func (w *world) crash(client int) {
	w.undo(client)
	w.purse.Take(client, 1<<20)
	w.table.Gone(client)
	w.welcome(client)
	w.speak()
	c := &w.clients[client]
	*c = actor{epoch: c.epoch + worldClients, needs: map[int]bool{}, ended: map[api.Txn]bool{}}
	c.d = w.desk(client)
}

// restart: the server is gone, and is there anew.
func (w *world) restart() {
	w.undo(0)
	w.anew()
	for k := 1; k <= worldClients; k++ {
		c := &w.clients[k]
		c.epoch += worldClients
		if e := c.d.Reset(c.epoch); e != 0 {
			w.t.Fatalf("Reset: %d", e)
		}
		w.late(k)
	}
}

// tells: an application was told a reply.
func (w *world) tells(client int, x api.Call, r api.Reply) {
	c := &w.clients[client]
	w.replies[r.Code]++
	if x.Kind == api.CallBegin && r.Code == 0 {
		c.of, c.saves = r.Txn, 0
	}
	if r.Txn != c.of {
		w.t.Fatalf("of %+v, in %+v: %+v", x, c.of, r)
	}
	w.told[r.Txn] = append(w.told[r.Txn], answered{x, r})
	if x.Kind == api.CallSave && r.Code == 0 || x.Kind == api.CallBack && r.Code == 0 {
		c.saves = r.Slot
	}
	over := r.Code == 0 && x.Kind >= api.CallCommit || r.Code == api.ErrVictim || r.Code == api.ErrReset
	if over {
		c.of = api.Txn{}
	}
	if name, in := c.d.Txn(); name != c.of || in != (c.of != api.Txn{}) {
		w.t.Fatalf("Txn: %+v, %t, wanted %+v", name, in, c.of)
	}
}

func (w *world) late(client int) {
	c := &w.clients[client]
	if r, ok := c.d.Late(); ok {
		w.tells(client, c.call, r)
	}
}

func (w *world) calls(client int) {
	c := &w.clients[client]
	if c.d.Busy() {
		return
	}
	x := api.Call{Kind: api.CallRead + w.r.Intn(4), Page: w.r.Intn(worldPages), Slot: w.r.Intn(3)}
	x.Data = strings.Repeat(string(rune('a'+w.r.Intn(26))), []int{0, 1, 8, 50, 120, 200}[w.r.Intn(6)])
	switch w.r.Intn(16) {
	case 0:
		x.Kind = api.CallSave
	case 1:
		x.Kind, x.Slot = api.CallBack, w.r.Intn(c.saves+1)
	case 2, 3:
		x.Kind = api.CallCommit
	case 4:
		x.Kind = api.CallRollback
	}
	if c.of == (api.Txn{}) {
		x.Kind = api.CallBegin
	}
	c.call = x
	if r, ok := c.d.Call(x); ok {
		w.tells(client, x, r)
	}
}

// sends: what a client has to send is under way.
func (w *world) sends(client int) {
	c := &w.clients[client]
	c.up = append(c.up, c.d.Out()...)
}

// arrives: a message arrives at the server, or at a client; false: there is none.
func (w *world) arrives(client int, up bool) bool {
	c := &w.clients[client]
	if up {
		if len(c.up) == 0 {
			return false
		}
		m := c.up[0]
		c.up = c.up[1:]
		w.takes(client, m)
		return true
	}
	if len(c.down) == 0 {
		return false
	}
	m := c.down[0]
	c.down = c.down[1:]
	if e := c.d.Hear(m); e != 0 {
		w.t.Fatalf("Hear(%+v): %d", m, e)
	}
	w.late(client)
	w.sends(client)
	return true
}

func (w *world) step() {
	client := 1 + w.r.Intn(worldClients)
	switch w.r.Intn(10) {
	case 0, 1, 2:
		w.calls(client)
		w.sends(client)
	case 3:
		switch w.r.Intn(120) {
		case 0:
			w.restart()
		case 1:
			w.crash(client)
		}
	default:
		w.arrives(client, w.r.Intn(2) == 0)
	}
}

// calm: all that is under way arrives. Who still waits, waits for a lock that somebody needs who could go on.
func (w *world) calm() {
	for some := true; some; {
		some = false
		for k := 1; k <= worldClients; k++ {
			some = w.arrives(k, true) || some
			some = w.arrives(k, false) || some
		}
	}
	for k := 1; k <= worldClients; k++ {
		c := &w.clients[k]
		if !c.d.Busy() {
			continue
		}
		free := false
		for _, other := range w.clients {
			free = free || other.d != nil && !other.d.Busy() && other.of != (api.Txn{})
		}
		if !within(c.call.Kind, api.CallRead, api.CallDelete) || !free {
			w.t.Fatalf("%d waits: %+v", k, c.call)
		}
	}
}

func within(n, least, most int) bool { return least <= n && n <= most }

// replay: each reply of a committed transaction is what it would be told if they ran one at a time; they leave what is there.
func (w *world) replay() {
	w.t.Helper()
	pages := make([]api.Page, worldPages)
	for _, name := range w.done {
		var saves [][]api.Page
		for _, a := range w.told[name] {
			switch a.reply.Code {
			case api.ErrFull, api.ErrLogFull, api.ErrReset:
				continue
			case api.ErrVictim:
				w.t.Fatalf("%+v is committed, and was a victim", name)
			}
			if want := once(pages, &saves, a.call); want != (api.Reply{Code: a.reply.Code, Slot: a.reply.Slot, Data: a.reply.Data}) {
				w.t.Fatalf("%+v of %+v: %+v, wanted %+v", a.call, name, a.reply, want)
			}
		}
	}
	w.check()
	sure := slices.Clone(w.pages)
	_, sure, e := mend.Undo(w.log, sure, 0)
	var want []api.Leaf
	for n, p := range pages {
		want = append(want, api.Leaf{N: n, Page: p})
	}
	if e != 0 || !slices.Equal(mend.Rows(sure), mend.Rows(want)) {
		w.t.Fatalf("left: %+v, wanted %+v", mend.Rows(sure), mend.Rows(want))
	}
}

// once: what a call is told on plain pages.
func once(pages []api.Page, saves *[][]api.Page, x api.Call) api.Reply {
	switch x.Kind {
	case api.CallSave:
		if len(*saves) == api.MaxSaves {
			return code(api.ErrSave)
		}
		*saves = append(*saves, slices.Clone(pages))
		return api.Reply{Slot: len(*saves)}
	case api.CallBack:
		if x.Slot < 1 {
			return code(api.ErrSave)
		}
		copy(pages, (*saves)[x.Slot-1])
		*saves = (*saves)[:x.Slot]
		return api.Reply{Slot: x.Slot}
	case api.CallRead, api.CallUpdate, api.CallDelete:
		if s := slab.At(pages[x.Page], x.Slot); !s.Used {
			return code(api.ErrNone)
		} else if x.Kind == api.CallRead {
			return api.Reply{Data: s.Data}
		}
	case api.CallInsert:
		slot, e := slab.Vacant(pages[x.Page], len(x.Data))
		if e != 0 {
			return code(e)
		}
		x.Slot = slot
	default:
		return api.Reply{}
	}
	is := rec(x.Data)
	if x.Kind == api.CallDelete {
		is = api.Slot{}
	}
	p, e := slab.Put(pages[x.Page], x.Slot, is)
	if e != 0 {
		return code(e)
	}
	pages[x.Page] = p
	return api.Reply{Slot: x.Slot}
}

// Some clients at once, over a server that calls back, finds victims, and goes down: nothing is ever refused, and all is as if the committed ones ran one at a time.
func TestWorld(t *testing.T) {
	replies := map[api.Errno]int{}
	committed := 0
	for seed := range int64(800) {
		w := newWorld(t, seed)
		for range 5 {
			for range 300 {
				w.step()
			}
			w.calm()
			w.replay()
		}
		committed += len(w.done)
		for e, n := range w.replies {
			replies[e] += n
		}
	}
	for _, e := range []api.Errno{api.OK, api.ErrNone, api.ErrPageFull, api.ErrFull, api.ErrVictim, api.ErrLogFull, api.ErrReset, api.ErrSave} {
		if replies[e] < 50 {
			t.Error(e, replies)
		}
	}
	if committed < 5000 {
		t.Error(committed)
	}
}
