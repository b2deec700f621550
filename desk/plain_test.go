package desk_test

import (
	"iter"
	"maps"
	"math/rand"
	"reflect"
	"slices"
	"strings"
	"testing"

	"seneschal/api"
	"seneschal/desk"
	"seneschal/entry"
	"seneschal/latch"
	"seneschal/mend"
	"seneschal/note"
	"seneschal/patch"
	"seneschal/ring"
	"seneschal/slab"
)

// plain is the chapter read plainly: each call is a course that goes on from one wait to the next.
type plain struct {
	client, epoch int
	c             api.Config
	last, begun   int
	locks         *latch.Locks
	hand          *ring.Ring[int, api.Page]
	changed       map[int]bool
	pinned        map[int]bool // by the transaction
	in            bool
	name          api.Txn
	list          []api.Entry
	sent          int // how many of list
	saves         []int
	out           []api.Msg
	owed          []api.Txn
	late          []api.Reply

	busy  bool
	of    api.Txn  // the transaction in which the call was
	for_  api.Call // what waits
	kind  int      // of the message that it waits for
	came  api.Msg
	full  bool // the grant's image found no frame
	reply api.Reply
	next  func() (int, bool)
	stop  func()
}

func newPlain(client, epoch int, c api.Config) *plain {
	p := &plain{client: client, epoch: epoch, c: c, last: c.First}
	p.forget()
	return p
}

func (p *plain) forget() {
	p.locks, p.hand = latch.New(), ring.New[int, api.Page](p.c.Cache)
	p.changed, p.pinned = map[int]bool{}, map[int]bool{}
	p.in, p.name, p.list, p.sent, p.saves, p.out, p.begun = false, api.Txn{}, nil, 0, nil, nil, 0
}

type broken struct{}

func (p *plain) call(x api.Call) (api.Reply, bool) {
	if p.busy {
		return api.Reply{Code: api.ErrBusy, Txn: p.name}, true
	}
	if len(p.owed) > 0 {
		r := api.Reply{Code: api.ErrReset, Txn: p.owed[0]}
		p.owed = nil
		return r, true
	}
	p.of = p.name
	p.next, p.stop = iter.Pull(func(yield func(int) bool) {
		defer func() {
			if r := recover(); r != nil && r != (broken{}) {
				panic(r)
			}
		}()
		p.reply = p.course(x, func(kind int) api.Msg {
			p.for_, p.kind = x, kind
			if !yield(kind) {
				panic(broken{})
			}
			return p.came
		})
	})
	_, p.busy = p.next()
	if p.busy {
		return api.Reply{}, false
	}
	return p.signed(), true
}

func (p *plain) signed() api.Reply {
	if p.reply.Txn == (api.Txn{}) {
		p.reply.Txn = p.of
	}
	return p.reply
}

func (p *plain) goOn(m api.Msg) {
	p.came = m
	_, p.busy = p.next()
	if !p.busy {
		p.late = append(p.late, p.signed())
	}
}

func code(e api.Errno) api.Reply { return api.Reply{Code: e} }

func (p *plain) course(x api.Call, wait func(int) api.Msg) api.Reply {
	if x.Kind < 1 || x.Kind > 9 {
		return code(api.ErrArg)
	}
	if x.Kind == api.CallBegin {
		return p.begin(wait)
	}
	if !p.in {
		return code(api.ErrState)
	}
	switch x.Kind {
	case api.CallSave:
		if len(p.saves) == 8 {
			return code(api.ErrSave)
		}
		p.saves = append(p.saves, p.lastOf())
		return api.Reply{Slot: len(p.saves)}
	case api.CallBack:
		if x.Slot < 1 || x.Slot > len(p.saves) {
			return code(api.ErrSave)
		}
		p.undo(p.saves[x.Slot-1])
		p.saves = p.saves[:x.Slot:x.Slot]
		return api.Reply{Slot: x.Slot}
	case api.CallCommit:
		if p.last == top {
			return code(api.ErrLast)
		}
		p.list = append(p.list, api.Entry{Kind: api.Commit, Txn: p.name, Lsn: p.last + 1, Prev: p.lastOf()})
		p.last++
		p.sendList()
		p.say(api.Msg{Kind: api.MsgCommit, Txn: p.name})
		wait(api.MsgSure)
		p.ends()
		return api.Reply{}
	case api.CallRollback:
		p.rollBack()
		return api.Reply{}
	}
	return p.onPage(x, wait)
}

func (p *plain) begin(wait func(int) api.Msg) api.Reply {
	if p.in {
		return code(api.ErrState)
	}
	if p.last > top-1<<20 {
		return code(api.ErrLast)
	}
	p.say(api.Msg{Kind: api.MsgSpace, N: 2})
	if wait(api.MsgRoom).N == 0 {
		return code(api.ErrLogFull)
	}
	p.begun++
	p.in, p.name = true, api.Txn{Client: p.client, Epoch: p.epoch, N: p.begun}
	return api.Reply{Txn: p.name}
}

func (p *plain) onPage(x api.Call, wait func(int) api.Msg) api.Reply {
	if x.Page < 0 || x.Page >= p.c.Pages || x.Kind != api.CallInsert && (x.Slot < 0 || x.Slot > 31) {
		return code(api.ErrArg)
	}
	if (x.Kind == api.CallInsert || x.Kind == api.CallUpdate) && len(x.Data) > 200 {
		return code(api.ErrLong)
	}
	if e := p.withLock(x.Page, x.Kind != api.CallRead, wait); e != 0 {
		return code(e)
	}
	for room := 0; ; {
		image, _ := p.hand.Get(x.Page)
		y := api.Entry{Kind: api.Change, Txn: p.name, Lsn: max(p.last, image.Lsn) + 1, Prev: p.lastOf(), Page: x.Page, Slot: x.Slot, Is: rec(x.Data)}
		if x.Kind == api.CallInsert {
			slot, e := slab.Vacant(image, len(x.Data))
			if e != 0 {
				return code(e)
			}
			y.Slot = slot
		} else {
			y.Was = slab.At(image, x.Slot)
			if !y.Was.Used {
				return code(api.ErrNone)
			}
		}
		switch x.Kind {
		case api.CallRead:
			return api.Reply{Data: y.Was.Data}
		case api.CallDelete:
			y.Is = api.Slot{}
		}
		after, e := slab.Put(image, y.Slot, y.Is)
		if e != 0 {
			return code(e)
		}
		if y.Lsn > top-1<<20 {
			return code(api.ErrLast)
		}
		if need := entry.Cost(y) + 3; need > room {
			room = need
			p.say(api.Msg{Kind: api.MsgSpace, N: need})
			p.hand.Pin(x.Page)
			n := wait(api.MsgRoom).N
			p.hand.Let(x.Page)
			if n == 0 {
				return code(api.ErrLogFull)
			}
			continue
		}
		after.Lsn = y.Lsn
		p.writes(y, after)
		if !p.pinned[x.Page] {
			p.pinned[x.Page] = true
			p.hand.Pin(x.Page)
		}
		return api.Reply{Slot: y.Slot}
	}
}

func (p *plain) writes(x api.Entry, after api.Page) {
	p.hand.Put(x.Page, after)
	p.changed[x.Page] = true
	p.list = append(p.list, x)
	p.last = x.Lsn
}

func (p *plain) withLock(page int, x bool, wait func(int) api.Msg) api.Errno {
	for {
		_, here := p.hand.Get(page)
		if here && p.locks.Has(page, x) {
			p.locks.Use(page, x)
			return 0
		}
		if p.locks.Has(page, false) {
			p.locks.Use(page, x && p.locks.Has(page, true))
		}
		p.say(api.Msg{Kind: api.MsgLock, Page: page, X: x, Need: !here})
		m := wait(api.MsgGrant)
		switch {
		case m.Kind == api.MsgVictim:
			p.rollBack()
			return api.ErrVictim
		case p.full:
			return api.ErrFull
		}
	}
}

func (p *plain) lastOf() int {
	if len(p.list) == 0 {
		return 0
	}
	return p.list[len(p.list)-1].Lsn
}

func (p *plain) undo(down int) {
	for {
		x, ok := mend.Back(p.list, p.name, down)
		if !ok {
			return
		}
		image, here := p.hand.Get(x.Page)
		y, e := patch.Turn(x, max(p.last, image.Lsn)+1, p.lastOf())
		if e != 0 || !here {
			return
		}
		after, _, e := patch.Redo(image, y)
		if e != 0 {
			return
		}
		p.writes(y, after)
	}
}

func (p *plain) rollBack() {
	p.undo(0)
	if len(p.list) == 0 {
		p.say(api.Msg{Kind: api.MsgSpare, N: 2})
	} else if p.last < top {
		p.last++
		p.list = append(p.list, api.Entry{Kind: api.End, Txn: p.name, Lsn: p.last, Prev: p.lastOf()})
	}
	p.sendList()
	p.ends()
}

func (p *plain) ends() {
	for page := range p.pinned {
		p.hand.Let(page)
	}
	p.pinned = map[int]bool{}
	p.in, p.name, p.list, p.sent, p.saves = false, api.Txn{}, nil, 0, nil
	for _, l := range p.locks.End() {
		p.sendPage(l.Page)
		p.say(api.Msg{Kind: api.MsgFree, Page: l.Page, X: l.Keep})
		if !l.Keep {
			p.hand.Del(l.Page)
		}
	}
}

func (p *plain) say(m api.Msg) { p.out = append(p.out, m) }

func (p *plain) sendList() {
	for p.sent < len(p.list) {
		n := min(p.sent+16, len(p.list))
		p.say(api.Msg{Kind: api.MsgLog, Entries: p.list[p.sent:n]})
		p.sent = n
	}
}

func (p *plain) sendPage(page int) {
	if image, here := p.hand.Get(page); here && p.changed[page] {
		p.sendImage(page, image)
	}
}

func (p *plain) sendImage(page int, image api.Page) {
	p.sendList()
	p.say(api.Msg{Kind: api.MsgImage, Page: page, Image: image})
	p.changed[page] = false
}

func (p *plain) hear(m api.Msg) api.Errno {
	if !note.Good(m) || m.Kind < api.MsgGrant {
		return api.ErrArg
	}
	switch m.Kind {
	case api.MsgGrant:
		p.grant(m)
	case api.MsgCall:
		switch p.locks.Call(m.Page, m.X) {
		case latch.LetGo:
			p.sendPage(m.Page)
			p.say(api.Msg{Kind: api.MsgFree, Page: m.Page})
			p.hand.Del(m.Page)
		case latch.Shares:
			p.sendPage(m.Page)
			p.say(api.Msg{Kind: api.MsgFree, Page: m.Page, X: true})
		case latch.Later:
			p.say(api.Msg{Kind: api.MsgInUse, Page: m.Page})
		}
	case api.MsgSure:
		if p.busy && p.kind == api.MsgSure && p.name == m.Txn {
			p.goOn(m)
		}
	case api.MsgRoom:
		if p.busy && p.kind == api.MsgRoom {
			p.goOn(m)
		}
	case api.MsgVictim:
		if p.busy && p.kind == api.MsgGrant {
			p.goOn(m)
		}
	}
	return 0
}

func (p *plain) grant(m api.Msg) {
	waits := p.busy && p.kind == api.MsgGrant && p.for_.Page == m.Page
	x := m.X && (p.locks.Has(m.Page, true) || waits && p.for_.Kind != api.CallRead)
	p.locks.Grant(m.Page, x)
	p.full = false
	if m.Need {
		left, ok := p.hand.Put(m.Page, m.Image)
		p.full = !ok
		if ok {
			p.changed[m.Page] = false
		}
		if left.Gone && p.changed[left.Key] {
			p.sendImage(left.Key, left.Val)
		}
	}
	if waits {
		p.goOn(m)
	}
}

func (p *plain) reset(epoch int) api.Errno {
	if epoch <= p.epoch || epoch > 1<<30 {
		return api.ErrArg
	}
	if p.busy {
		p.stop()
		p.busy = false
		p.late = append(p.late, api.Reply{Code: api.ErrReset, Txn: p.name})
	} else if p.in {
		p.owed = []api.Txn{p.name}
	}
	p.epoch = epoch
	p.forget()
	return 0
}

// pair is a client beside what the chapter says of it, with a server that mostly gives what is asked for.
type pair struct {
	t      *testing.T
	r      *rand.Rand
	d      *desk.Desk
	p      *plain
	wild   bool // the server says what it likes
	store  map[int]api.Page
	asked  []api.Msg // what wasn't answered yet
	counts map[string]int
}

func (q *pair) same() {
	q.t.Helper()
	list := q.d.Out()
	if !sameMsgs(list, q.p.out) {
		q.t.Fatalf("Out: %+v, wanted %+v", list, q.p.out)
	}
	q.p.out = nil
	for _, m := range list {
		if !note.Good(m) {
			q.t.Fatalf("sent: %+v", m)
		}
		q.takes(m)
	}
	for q.r.Intn(3) > 0 {
		r, ok := q.d.Late()
		if ok != (len(q.p.late) > 0) || !ok && r != (api.Reply{}) || ok && r != q.p.late[0] {
			q.t.Fatalf("Late: %+v, %t, wanted %+v", r, ok, q.p.late)
		}
		if !ok {
			break
		}
		q.counts["late "+reply(r)]++
		q.p.late = q.p.late[1:]
	}
	name, in := q.d.Txn()
	if q.d.Busy() != q.p.busy || name != q.p.name || in != q.p.in {
		q.t.Fatalf("%t, %+v, %t, wanted %t, %+v, %t", q.d.Busy(), name, in, q.p.busy, q.p.name, q.p.in)
	}
}

func reply(r api.Reply) string {
	return strings.Repeat("x", int(r.Code))
}

// takes: the server takes a message in.
func (q *pair) takes(m api.Msg) {
	q.counts[kindOf(m)]++
	switch m.Kind {
	case api.MsgLock, api.MsgSpace, api.MsgCommit:
		q.asked = append(q.asked, m)
	case api.MsgLog:
		for _, x := range m.Entries {
			if x.Kind == api.Change || x.Kind == api.Undo {
				if p, done, e := patch.Redo(q.store[x.Page], x); e == 0 && done {
					q.store[x.Page] = p
				}
			}
		}
	case api.MsgImage:
		if !q.wild && !reflect.DeepEqual(bare(m).Image, bare(api.Msg{Image: q.store[m.Page]}).Image) {
			q.t.Fatalf("image %+v, the entries tell %+v", m, q.store[m.Page])
		}
	}
}

func kindOf(m api.Msg) string {
	return [...]string{"", "lock", "free", "in use", "log", "image", "commit", "space", "spare"}[m.Kind]
}

func (q *pair) data() string {
	return strings.Repeat(string(rune('a'+q.r.Intn(26))), []int{0, 1, 5, 60, 200, 201}[q.r.Intn(6)])
}

func (q *pair) anyCall() api.Call {
	x := api.Call{Kind: q.r.Intn(11), Page: q.r.Intn(6), Slot: q.r.Intn(4), Data: q.data()}
	switch q.r.Intn(20) {
	case 0:
		x.Page = q.r.Intn(9) - 2
		x.Slot = q.r.Intn(36) - 2
	case 1, 2:
		x.Kind = api.CallSave + q.r.Intn(2)
	case 3, 4, 5, 6, 7, 8, 9:
		x.Kind = api.CallRead + q.r.Intn(4)
	}
	if !q.p.in {
		x.Kind = api.CallBegin
	} else if x.Kind >= api.CallCommit && q.r.Intn(3) > 0 {
		x.Kind = api.CallInsert
	}
	return x
}

func (q *pair) anyImage() api.Page {
	p := api.Page{Lsn: []int{0, 1, q.r.Intn(100), q.p.last, top - 1<<20 - 1, top - 2, top}[q.r.Intn(7)]}
	if q.r.Intn(3) > 0 {
		p.Lsn = q.r.Intn(50)
	}
	for range q.r.Intn(5) {
		if x, e := slab.Put(p, q.r.Intn(5), rec(q.data())); e == 0 {
			p = x
		}
	}
	return p
}

// answer: what the server may say to a message.
func (q *pair) answer(m api.Msg) api.Msg {
	switch m.Kind {
	case api.MsgLock:
		if q.r.Intn(12) == 0 {
			return victim
		}
		g := api.Msg{Kind: api.MsgGrant, Page: m.Page, X: m.X || q.r.Intn(4) == 0, Need: m.Need}
		if g.Need {
			g.Image = q.store[m.Page]
		}
		return g
	case api.MsgSpace:
		if q.r.Intn(8) == 0 {
			return room(0)
		}
		return room(m.N)
	}
	return sure(m.Txn)
}

func (q *pair) anyMsg() api.Msg {
	if len(q.asked) > 0 && q.r.Intn(4) > 0 {
		m := q.asked[0]
		q.asked = q.asked[1:]
		return q.answer(m)
	}
	if q.wild && q.r.Intn(2) == 0 {
		m := api.Msg{Kind: api.MsgGrant + q.r.Intn(6), Page: q.r.Intn(6), X: q.r.Intn(2) == 0, N: q.r.Intn(3)}
		switch m.Kind {
		case api.MsgGrant:
			m.N = 0
			if m.Need = q.r.Intn(2) == 0; m.Need {
				m.Image = q.anyImage()
			}
		case api.MsgSure:
			m = sure(q.p.name)
		case api.MsgVictim:
			m = victim
		case api.MsgRoom:
			m.Page, m.X = 0, false
		case api.MsgCall:
			m.N = 0
		}
		return m
	}
	return calls(q.r.Intn(6), q.r.Intn(2) == 0)
}

func (q *pair) step() {
	q.t.Helper()
	switch n := q.r.Intn(40); {
	case n == 0 && q.r.Intn(5) == 0:
		epoch := q.p.epoch + q.r.Intn(4) - 1
		e := q.d.Reset(epoch)
		if want := q.p.reset(epoch); e != want {
			q.t.Fatalf("Reset(%d): %d, wanted %d", epoch, e, want)
		} else if e == 0 {
			q.asked = nil
		}
	case n < 20 && (!q.p.busy || n == 1):
		x := q.anyCall()
		r, ok := q.d.Call(x)
		if want, now := q.p.call(x); r != want || ok != now {
			q.t.Fatalf("Call(%+v): %+v, %t, wanted %+v, %t", x, r, ok, want, now)
		}
		if ok {
			q.counts["now "+reply(r)]++
		}
	default:
		m := q.anyMsg()
		e := q.d.Hear(m)
		if want := q.p.hear(m); e != want {
			q.t.Fatalf("Hear(%+v): %d, wanted %d", m, e, want)
		}
	}
	q.same()
}

func play(t *testing.T, seed int64, wild bool, counts map[string]int) {
	r := rand.New(rand.NewSource(seed))
	c := api.Config{Pages: 1 + r.Intn(6), Cache: 1 + r.Intn(4), First: r.Intn(40)}
	if r.Intn(4) == 0 {
		c.First = top - 1<<20 - r.Intn(30)
	}
	q := &pair{t: t, r: r, d: desk.New(3, 5, c), p: newPlain(3, 5, c), wild: wild, store: map[int]api.Page{}, counts: counts}
	defer func() {
		if q.p.busy {
			q.p.stop()
		}
	}()
	for range c.Pages {
		q.store[r.Intn(c.Pages)] = q.anyImage()
	}
	for range 200 {
		q.step()
	}
}

// Whatever is called, and comes: what is answered and sent is what the chapter says.
func TestPlain(t *testing.T) {
	for _, wild := range []bool{false, true} {
		counts := map[string]int{}
		for seed := range int64(2000) {
			play(t, seed, wild, counts)
		}
		for _, e := range []api.Errno{api.OK, api.ErrArg, api.ErrLong, api.ErrNone, api.ErrPageFull, api.ErrState, api.ErrBusy, api.ErrSave, api.ErrReset, api.ErrLast} {
			if counts["now "+reply(code(e))] < 20 {
				t.Error("at once:", e, counts["now "+reply(code(e))])
			}
		}
		for _, e := range []api.Errno{api.OK, api.ErrNone, api.ErrPageFull, api.ErrFull, api.ErrVictim, api.ErrLogFull, api.ErrReset, api.ErrLast} {
			if counts["late "+reply(code(e))] < 20 {
				t.Error("late:", e, counts["late "+reply(code(e))])
			}
		}
		for _, kind := range []string{"lock", "free", "in use", "log", "image", "commit", "space", "spare"} {
			if counts[kind] < 500 {
				t.Error(kind, counts[kind], slices.Sorted(maps.Keys(counts)))
			}
		}
	}
}
