package vat_test

import (
	"encoding/binary"
	"math"
	"reflect"
	"slices"
	"strings"
	"testing"

	"seneschal/api"
	"seneschal/entry"
	"seneschal/mend"
	"seneschal/plate"
	"seneschal/slab"
	"seneschal/twin"
	"seneschal/vat"
)

// small has 2 tops, 4 twins, 4 homes, and a log of 16 sectors.
var small = api.Config{Pages: 4, Log: 16, Pool: 2}

// The sectors of a store of small.
const (
	twins = 2
	homes = 6
	logAt = 10
)

var zeros = strings.Repeat("\x00", 256)

func txn(client, epoch, n int) api.Txn { return api.Txn{Client: client, Epoch: epoch, N: n} }

var a, b, c = txn(1, 1, 1), txn(1, 1, 2), txn(2, 1, 1)

// rec is a slot with a record, none that without one.
func rec(s string) api.Slot { return api.Slot{Used: true, Data: s} }

var none = api.Slot{}

func long(s string, n int) api.Slot { return rec(strings.Repeat(s, n)) }

func change(t api.Txn, lsn, prev, page, slot int, was, is api.Slot) api.Entry {
	return api.Entry{Kind: api.Change, Txn: t, Lsn: lsn, Prev: prev, Page: page, Slot: slot, Was: was, Is: is}
}

func undo(t api.Txn, lsn, prev, page, slot int, was, is api.Slot, next int) api.Entry {
	return api.Entry{Kind: api.Undo, Txn: t, Lsn: lsn, Prev: prev, Page: page, Slot: slot, Was: was, Is: is, Next: next}
}

func commit(t api.Txn, lsn, prev int) api.Entry {
	return api.Entry{Kind: api.Commit, Txn: t, Lsn: lsn, Prev: prev}
}

func end(t api.Txn, lsn, prev int) api.Entry {
	return api.Entry{Kind: api.End, Txn: t, Lsn: lsn, Prev: prev}
}

// at is a change at the slot 0 by a transaction of this change alone.
func at(n, lsn, page int, was, is api.Slot) api.Entry {
	return change(txn(3, 1, n), lsn, 0, page, 0, was, is)
}

// topBytes are the bytes of a top.
func topBytes(turn uint64, at, first, gen int) string {
	s := []byte("TOP\x00")
	s = binary.BigEndian.AppendUint64(s, turn)
	s = binary.BigEndian.AppendUint64(s, uint64(at))
	s = binary.BigEndian.AppendUint64(s, uint64(first))
	s = binary.BigEndian.AppendUint32(s, uint32(gen))
	return string(append(s, make([]byte, 256-len(s))...))
}

func homeBytes(n int, p api.Page) string {
	s, _ := slab.Encode(p)
	return s + "PAGE" + string([]byte{0, 0, byte(n >> 8), byte(n)}) + zeros[:8]
}

// puts writes sectors for sure. A text of no bytes: it is torn.
func puts(t *testing.T, d *plate.Plate, sectors map[int]string) {
	t.Helper()
	for n, s := range sectors {
		torn := s == ""
		if torn {
			s = zeros
		}
		if e := d.Write(n, s); e != 0 {
			t.Fatal(n, e)
		}
		if torn {
			d.Off()
			d.On([]int{2})
		} else if e := d.Sync(); e != 0 {
			t.Fatal(e)
		}
	}
}

// raw is a sector as it is, "" of one that is torn.
func raw(d *plate.Plate, n int) string {
	s, _ := d.Read(n)
	return s
}

// images are all sectors.
func images(d *plate.Plate) []string {
	var list []string
	for n := range d.Sectors() {
		list = append(list, raw(d, n))
	}
	return list
}

// again is a plate with the same sectors, on which nothing waits.
func again(t *testing.T, d *plate.Plate) *plate.Plate {
	t.Helper()
	copied := plate.New(d.Sectors())
	for n, s := range images(d) {
		if s != zeros {
			puts(t, copied, map[int]string{n: s})
		}
	}
	return copied
}

// opens: the store opens, and tells these as done.
func opens(t *testing.T, d *plate.Plate, c api.Config, done ...api.Txn) *vat.Vat {
	t.Helper()
	v, told, e := vat.Open(d, c)
	if e != 0 || v == nil || !slices.Equal(told, done) {
		t.Fatalf("Open: %v, %d, wanted %v", told, e, done)
	}
	if v.Due() != 0 || v.Room() != c.Log || len(v.Sure()) != 0 {
		t.Fatalf("behind Open: Due %d, Room %d, Sure %v", v.Due(), v.Room(), v.Sure())
	}
	return v
}

// refuses: the store doesn't open, and tells these as done all the same.
func refuses(t *testing.T, d *plate.Plate, c api.Config, want api.Errno, done ...api.Txn) {
	t.Helper()
	if v, told, e := vat.Open(d, c); v != nil || e != want || !slices.Equal(told, done) {
		t.Fatalf("Open: %v, %v, %d, wanted %d, %v", v, told, e, want, done)
	}
}

func code(t *testing.T, what string, got, want api.Errno) {
	t.Helper()
	if got != want {
		t.Fatalf("%s: %d, wanted %d", what, got, want)
	}
}

func add(t *testing.T, v *vat.Vat, want api.Errno, list ...api.Entry) {
	t.Helper()
	code(t, "Add", v.Add(list), want)
}

func force(t *testing.T, v *vat.Vat) {
	t.Helper()
	code(t, "Force", v.Force(), 0)
}

func check(t *testing.T, v *vat.Vat) {
	t.Helper()
	code(t, "Check", v.Check(), 0)
}

// cycle lets the power go, and come back.
func cycle(d *plate.Plate, fates ...int) {
	d.Off()
	d.On(fates)
}

// state is all that a store tells.
type state struct {
	room, due, gen int
	sure           []api.Txn
	leaves         []api.Leaf
}

func tell(t *testing.T, v *vat.Vat) state {
	t.Helper()
	leaves, e := v.Leaves()
	code(t, "Leaves", e, 0)
	for i := range leaves {
		leaves[i].Page.Slots = slices.Clone(leaves[i].Page.Slots)
	}
	return state{v.Room(), v.Due(), v.Gen(), slices.Clone(v.Sure()), slices.Clone(leaves)}
}

func samePage(p, q api.Page) bool { return p.Lsn == q.Lsn && slices.Equal(p.Slots, q.Slots) }

func sameLeaves(x, y []api.Leaf) bool {
	return slices.EqualFunc(x, y, func(l, m api.Leaf) bool { return l.N == m.N && samePage(l.Page, m.Page) })
}

func (s state) same(r state) bool {
	return s.room == r.room && s.due == r.due && s.gen == r.gen && slices.Equal(s.sure, r.sure) && sameLeaves(s.leaves, r.leaves)
}

// stays: what was called has changed nothing.
func stays(t *testing.T, v *vat.Vat, was state) {
	t.Helper()
	if now := tell(t, v); !now.same(was) {
		t.Fatalf("%v, and then %v", was, now)
	}
}

// has: the records of a store.
func has(t *testing.T, v *vat.Vat, want ...api.Row) {
	t.Helper()
	leaves, e := v.Leaves()
	if rows := mend.Rows(leaves); e != 0 || !slices.Equal(rows, want) {
		t.Fatalf("%v, %d, wanted %v", rows, e, want)
	}
	for _, l := range leaves {
		if p, e := v.Page(l.N); e != 0 || !samePage(p, l.Page) {
			t.Fatalf("Page(%d): %v, %d, wanted %v", l.N, p, e, l.Page)
		}
	}
}

func sure(t *testing.T, v *vat.Vat, want ...api.Txn) {
	t.Helper()
	if got := v.Sure(); !slices.Equal(got, want) {
		t.Fatalf("Sure: %v, wanted %v", got, want)
	}
}

func row(page int, data string) api.Row { return api.Row{Page: page, Slot: 0, Data: data} }

// bad are no entries of a store of four pages.
func bad() []api.Entry {
	x := at(1, 9, 3, none, rec("a"))
	list := []api.Entry{{}, x, x, x, x, x, x, x, commit(a, 0, 0), commit(txn(9, 1, 1), 3, 0), end(a, 3, 3)}
	list[1].Kind = 5
	list[2].Lsn = 1<<40 + 1
	list[3].Page = 4
	list[4].Page = -1
	list[5].Slot = 32
	list[6].Is = api.Slot{Data: "a"}
	list[7] = undo(a, 9, 3, math.MaxInt, 0, none, none, 0)
	return list
}

// The example, and what is told in between.
func TestExample(t *testing.T) {
	d := plate.New(26)
	v := opens(t, d, small)
	add(t, v, 0, change(a, 1, 0, 2, 0, none, rec("a")))
	if v.Due() != 5 {
		t.Error(v.Due())
	}
	add(t, v, 0, commit(a, 2, 1))
	if v.Due() != 0 {
		t.Error(v.Due())
	}
	force(t, v)
	sure(t, v, a)
	has(t, v, row(2, "a"))
	cycle(d)
	v = opens(t, d, small, a)
	has(t, v, row(2, "a"))
	cycle(d)
	v = opens(t, d, small)
	has(t, v, row(2, "a"))
}

// P19.1

func TestNeed(t *testing.T) {
	for k, x := range []struct{ pages, log, pool, want int }{
		{1, 16, 1, 23},
		{4, 16, 2, 26},
		{8, 40, 64, 54},
		{1024, 4096, 64, 5126},
		{1024, 16, 64, 1046},
		{1, 4096, 1, 4103},
		{0, 16, 1, 0},
		{-1, 16, 1, 0},
		{math.MinInt, 16, 1, 0},
		{1025, 16, 1, 0},
		{math.MaxInt, 16, 1, 0},
		{1, 15, 1, 0},
		{1, 0, 1, 0},
		{1, math.MinInt, 1, 0},
		{1, 4097, 1, 0},
		{1, math.MaxInt, 1, 0},
		{1, 16, 0, 0},
		{1, 16, math.MinInt, 0},
		{1, 16, 65, 0},
		{1, 16, math.MaxInt, 0},
		{math.MaxInt, math.MaxInt, 1, 0},
		{0, 0, 0, 0},
	} {
		for _, other := range []int{0, 3, math.MinInt, math.MaxInt} {
			conf := api.Config{Clients: other, Pages: x.pages, Log: x.log, Cache: other, Pool: x.pool, First: other}
			if n := vat.Need(conf); n != x.want {
				t.Errorf("row %d: %d, wanted %d", k, n, x.want)
			}
			if x.want == 0 {
				refuses(t, plate.New(1<<14), conf, api.ErrArg)
				refuses(t, nil, conf, api.ErrNil)
				continue
			}
			d := plate.New(x.want)
			opens(t, d, conf)
			d = plate.New(x.want - 1)
			refuses(t, d, conf, api.ErrArg)
			d.Off()
			refuses(t, d, conf, api.ErrArg)
			if d.Acts() != 0 {
				t.Errorf("row %d: %d acts", k, d.Acts())
			}
			d = plate.New(x.want + 1)
			d.Off()
			refuses(t, d, conf, api.ErrDown)
			d.On(nil)
			opens(t, d, conf)
		}
	}
}

// What the first openings write.
func TestOpenOfNew(t *testing.T) {
	d := plate.New(30)
	puts(t, d, map[int]string{26: strings.Repeat("x", 256), 29: ""})
	for n := 1; n < 6; n++ {
		v := opens(t, d, small)
		if v.Gen() != n+1 {
			t.Error(v.Gen())
		}
		has(t, v)
		want := slices.Repeat([]string{zeros}, 30)
		want[0], want[1] = topBytes(uint64(2*n), 0, 1, n+1), topBytes(uint64(2*n-1), 0, 1, n+1)
		want[26], want[29] = strings.Repeat("x", 256), ""
		if !slices.Equal(images(d), want) {
			t.Fatalf("opening %d", n)
		}
		if d.Waits() != 0 {
			t.Error(d.Waits())
		}
	}
}

// The pages and the log stand where layers 8 and 7 have them.
func TestWhereThingsStand(t *testing.T) {
	d := plate.New(26)
	v := opens(t, d, small)
	add(t, v, 0, at(1, 5, 3, none, rec("a")))
	force(t, v)
	s := raw(d, logAt)
	if x, rest, e := entry.Decode(s[24:]); e != 0 || x != at(1, 5, 3, none, rec("a")) || strings.Trim(rest, "\x00") != "" {
		t.Error(x, e)
	}
	if n := binary.BigEndian.Uint64([]byte(s)); n != 0 {
		t.Error(n)
	}
	check(t, v)
	p := api.Page{Lsn: 5, Slots: []api.Slot{rec("a")}}
	if raw(d, twins) != homeBytes(3, p) || raw(d, homes+3) != homeBytes(3, p) {
		t.Error("the page isn't home")
	}
	if _, e := twin.Open(d, twins, 4, 4); e != 0 {
		t.Error(e)
	}
	if raw(d, 1) != topBytes(3, 0, 1, 2) || raw(d, 0) != topBytes(2, 0, 1, 2) {
		t.Error("the tops")
	}
	add(t, v, 0, commit(txn(3, 1, 1), 6, 5))
	check(t, v)
	if raw(d, 1) != topBytes(3, 0, 1, 2) || raw(d, 0) != topBytes(4, 2, 3, 2) || v.Room() != 16 {
		t.Error("the tops")
	}
	cycle(d)
	v = opens(t, d, small)
	if raw(d, 1) != topBytes(5, 2, 3, 3) || raw(d, 0) != topBytes(6, 2, 3, 3) || v.Gen() != 3 {
		t.Error("the tops")
	}
}

// An opening undoes what isn't at its end, brings the pages home, and begins an empty log behind the old one.
func TestOpenMends(t *testing.T) {
	d := plate.New(26)
	v := opens(t, d, small)
	add(t, v, 0, change(a, 3, 0, 0, 0, none, rec("a")), change(b, 4, 0, 1, 0, none, rec("b")))
	add(t, v, 0, change(c, 5, 0, 3, 1, none, rec("c")), commit(c, 6, 5), commit(a, 7, 3))
	force(t, v)
	add(t, v, 0, change(b, 8, 4, 2, 0, none, rec("b2")), commit(b, 9, 8)) // lost
	cycle(d)
	v = opens(t, d, small, c, a)
	want := []api.Row{row(0, "a"), {Page: 3, Slot: 1, Data: "c"}}
	has(t, v, want...)
	// One batch of the five, one of an Undo and an End; behind the 7 entries the mark is that of the 8th.
	if raw(d, 0) != topBytes(4, 2, 8, 3) || raw(d, 1) != topBytes(3, 0, 1, 3) {
		t.Error("the tops")
	}
	for n, p := range map[int]api.Page{
		0: {Lsn: 3, Slots: []api.Slot{rec("a")}},
		1: {Lsn: 5},
		3: {Lsn: 5, Slots: []api.Slot{none, rec("c")}},
	} {
		if raw(d, homes+n) != homeBytes(n, p) {
			t.Errorf("the home of %d", n)
		}
	}
	if raw(d, homes+2) != zeros {
		t.Error("the page 2 was never changed")
	}
	acts := d.Acts()
	v = opens(t, d, small)
	has(t, v, want...)
	if d.Acts() != acts+4 {
		t.Errorf("%d acts, with nothing to bring home", d.Acts()-acts)
	}
}

// Layer 8's errors come behind the first top.
func TestOpenOfOtherHomes(t *testing.T) {
	for k, x := range []struct {
		home, twin string
		want       api.Errno
	}{
		{strings.Repeat("x", 256), zeros, api.ErrForm},
		{homeBytes(2, api.Page{}), zeros, api.ErrForm},
		{"", zeros, api.ErrForm},
		{"", homeBytes(2, api.Page{Lsn: 3}), api.ErrForm},
		{"", homeBytes(1, api.Page{Lsn: 3, Slots: []api.Slot{rec("a")}}), 0},
		{homeBytes(1, api.Page{Lsn: 3, Slots: []api.Slot{rec("a")}}), "", 0},
	} {
		d := plate.New(26)
		opens(t, d, small)
		puts(t, d, map[int]string{homes + 1: x.home, twins + 2: x.twin})
		acts := d.Acts()
		if x.want != 0 {
			refuses(t, d, small, x.want)
			if d.Acts() != acts+2 || raw(d, 1) != topBytes(3, 0, 1, 3) {
				t.Errorf("row %d: no top", k)
			}
			continue
		}
		has(t, opens(t, d, small), row(1, "a"))
	}
}

// P19.2 to P19.5: which error comes first.

func TestNil(t *testing.T) {
	var v *vat.Vat
	code(t, "Add", v.Add([]api.Entry{{}}), api.ErrNil)
	code(t, "Add", v.Add(nil), api.ErrNil)
	code(t, "Force", v.Force(), api.ErrNil)
	code(t, "Check", v.Check(), api.ErrNil)
	for _, n := range []int{-1, 0, 1} {
		l, e := v.Undo(n)
		p, f := v.Page(n)
		if len(l) != 0 || e != api.ErrNil || !reflect.DeepEqual(p, api.Page{}) || f != api.ErrNil {
			t.Error(l, e, p, f)
		}
	}
	if l, e := v.Leaves(); len(l) != 0 || e != api.ErrNil {
		t.Error(l, e)
	}
	if v.Room() != 0 || v.Due() != 0 || v.Gen() != 0 || len(v.Sure()) != 0 {
		t.Error(v.Room(), v.Due(), v.Gen(), v.Sure())
	}
}

// down: each call is told ErrDown, whatever it is given, and the rest is as it was.
func down(t *testing.T, v *vat.Vat, room, due, gen int, told ...api.Txn) {
	t.Helper()
	for _, list := range [][]api.Entry{nil, {{}}, {at(1, 1<<40, 0, none, none)}} {
		code(t, "Add", v.Add(list), api.ErrDown)
	}
	code(t, "Force", v.Force(), api.ErrDown)
	code(t, "Check", v.Check(), api.ErrDown)
	for _, n := range []int{math.MinInt, -1, 0, 1, 9} {
		l, e := v.Undo(n)
		p, f := v.Page(n)
		if len(l) != 0 || e != api.ErrDown || !reflect.DeepEqual(p, api.Page{}) || f != api.ErrDown {
			t.Error(l, e, p, f)
		}
	}
	if l, e := v.Leaves(); len(l) != 0 || e != api.ErrDown {
		t.Error(l, e)
	}
	if v.Room() != room || v.Due() != due || v.Gen() != gen {
		t.Errorf("Room %d, Due %d, Gen %d, wanted %d, %d, %d", v.Room(), v.Due(), v.Gen(), room, due, gen)
	}
	sure(t, v, told...)
}

func TestDown(t *testing.T) {
	d := plate.New(26)
	v := opens(t, d, small)
	add(t, v, 0, at(1, 5, 3, none, rec("a")), commit(txn(3, 1, 1), 6, 5))
	force(t, v)
	add(t, v, 0, at(2, 5, 0, none, rec("b")), commit(a, 3, 0))
	room, due := v.Room(), v.Due()
	d.Off()
	down(t, v, room, due, 2, txn(3, 1, 1))
	acts := d.Acts()
	d.On(nil)
	down(t, v, room, due, 2, txn(3, 1, 1))
	if d.Acts() != acts {
		t.Error("an act")
	}
	w := opens(t, d, small, txn(3, 1, 1))
	down(t, v, room, due, 2, txn(3, 1, 1))
	has(t, w, row(3, "a"))
}

// Each call in whose acts the power goes is told so, and so is each one behind it; which Commits are sure is told at once.
func TestDownInACall(t *testing.T) {
	one := api.Config{Pages: 4, Log: 40, Pool: 1}
	begin := func() (*plate.Plate, *vat.Vat) {
		d := plate.New(50)
		v := opens(t, d, one)
		add(t, v, 0, commit(a, 1, 0))
		add(t, v, 0, change(c, 5, 0, 1, 0, none, rec("b")))
		force(t, v)
		add(t, v, 0, change(c, 6, 5, 3, 0, none, rec("c")), commit(b, 3, 0)) // the page 1 leaves
		return d, v
	}
	for k, x := range []struct {
		acts int
		call func(v *vat.Vat) api.Errno
	}{
		{2, (*vat.Vat).Force},
		{2 + 4 + 2, (*vat.Vat).Check},
		{2 + 4, func(v *vat.Vat) api.Errno { return v.Add([]api.Entry{at(7, 9, 2, none, rec("x"))}) }},
		{2 + 4 + 4, func(v *vat.Vat) api.Errno {
			_, e := v.Undo(2)
			return e
		}},
		{2 + 4, func(v *vat.Vat) api.Errno {
			_, e := v.Page(2)
			return e
		}},
	} {
		for act := 1; act <= x.acts+1; act++ {
			d, v := begin()
			room, due, known := v.Room(), v.Due(), []api.Txn{a}
			sure(t, v, known...)
			acts := d.Acts()
			d.Arm(act)
			e := x.call(v)
			if act > x.acts {
				if e != 0 || d.Acts() != acts+x.acts {
					t.Errorf("row %d: %d, %d acts", k, e, d.Acts()-acts)
				}
				continue
			}
			code(t, "the call", e, api.ErrDown)
			if act > 2 {
				known = append(known, b)
			}
			down(t, v, room, due, 2, known...)
			d.On(nil)
			down(t, v, room, due, 2, known...)
		}
	}
}

// Where there is too little power for a call it answers nothing beside the error.
func TestNothingBesideErrDown(t *testing.T) {
	for act := 1; act <= 4; act++ {
		d := plate.New(50)
		v := opens(t, d, api.Config{Pages: 4, Log: 40, Pool: 1})
		add(t, v, 0, change(c, 5, 0, 1, 0, none, rec("b")))
		add(t, v, 0, change(c, 6, 5, 2, 0, none, rec("c")))
		d.Arm(act)
		if act%2 == 0 {
			if p, e := v.Page(0); e != api.ErrDown || !reflect.DeepEqual(p, api.Page{}) {
				t.Error(p, e)
			}
		} else if l, e := v.Undo(2); e != api.ErrDown || len(l) != 0 {
			t.Error(l, e)
		}
	}
}

func TestAddRefuses(t *testing.T) {
	d := plate.New(48)
	v := opens(t, d, api.Config{Pages: 4, Log: 38, Pool: 2})
	add(t, v, 0, at(1, 5, 3, none, rec("a")), commit(txn(3, 1, 1), 6, 5), at(2, 7, 1, none, rec("b")))
	was, acts := tell(t, v), d.Acts()
	good := at(3, 9, 2, none, rec("c"))
	old := at(3, 5, 3, rec("a"), rec("c"))
	slot := at(3, 6, 3, none, rec("c"))
	for _, x := range bad() {
		for _, list := range [][]api.Entry{{x}, {good, x}, {x, good}, {old, x}, {slot, x}, {good, good, good, good, x}} {
			add(t, v, api.ErrArg, list...)
			stays(t, v, was)
		}
	}
	full := change(c, 9, 0, 3, 1, none, long("x", 200))
	var many []api.Entry
	for k := range 20 {
		many = append(many, at(10+k, 10+k, 2, none, none))
	}
	for k, x := range []struct {
		want api.Errno
		list []api.Entry
	}{
		{api.ErrOld, []api.Entry{old}},
		{api.ErrOld, []api.Entry{at(3, 4, 3, rec("a"), rec("c"))}},
		{api.ErrOld, []api.Entry{good, good}},
		{api.ErrOld, []api.Entry{good, at(4, 8, 2, rec("c"), rec("d"))}},
		{api.ErrOld, []api.Entry{old, slot}},
		{api.ErrOld, append([]api.Entry{old}, many...)},
		{api.ErrOld, []api.Entry{undo(a, 5, 3, 3, 0, rec("a"), none, 1)}},
		{api.ErrSlot, []api.Entry{slot}},
		{api.ErrSlot, []api.Entry{slot, old}},
		{api.ErrSlot, append([]api.Entry{slot}, many...)},
		{api.ErrSlot, []api.Entry{good, at(4, 10, 2, none, rec("d"))}},
		{api.ErrSlot, []api.Entry{undo(a, 6, 3, 3, 0, rec("b"), none, 1)}},
		{api.ErrPageFull, append([]api.Entry{full, change(c, 10, 9, 3, 2, none, long("x", 30))}, many...)},
		{api.ErrPageFull, append([]api.Entry{full, change(c, 10, 9, 3, 2, none, long("x", 30)), old, slot}, many...)},
		{api.ErrFull, many},
	} {
		if e := v.Add(x.list); e != x.want {
			t.Errorf("row %d: %d, wanted %d", k, e, x.want)
		}
		stays(t, v, was)
	}
	if d.Acts() != acts {
		t.Error("acts", d.Acts()-acts)
	}
	add(t, v, 0)
	stays(t, v, was)
	add(t, v, 0, good, undo(a, 10, 3, 2, 0, rec("c"), none, 0), at(4, 11, 2, none, rec("e")), full, end(c, 1, 0))
	has(t, v, row(1, "b"), row(2, "e"), row(3, "a"), api.Row{Page: 3, Slot: 1, Data: strings.Repeat("x", 200)})
}

func TestPagesThereAreNot(t *testing.T) {
	v := opens(t, plate.New(26), small)
	for _, n := range []int{math.MinInt, -1, 4, 5, 1024, math.MaxInt} {
		if p, e := v.Page(n); !reflect.DeepEqual(p, api.Page{}) || e != api.ErrArg {
			t.Error(n, p, e)
		}
	}
	for _, n := range []int{math.MinInt, -1, 0, 9, math.MaxInt} {
		if l, e := v.Undo(n); len(l) != 0 || e != api.ErrArg {
			t.Error(n, l, e)
		}
	}
	add(t, v, 0, at(1, 5, 3, none, rec("a")))
	for n := 1; n <= 8; n++ {
		l, e := v.Undo(n)
		if e != 0 || (len(l) == 2) != (n == 3) || len(l)%2 != 0 {
			t.Error(n, l, e)
		}
	}
}

// Where something else has used the homes, which nobody may do, calls are told so, at least.
func TestSpoiledHomes(t *testing.T) {
	d := plate.New(74)
	v := opens(t, d, api.Config{Pages: 4, Log: 64, Pool: 1})
	add(t, v, 0, change(c, 3, 0, 1, 0, none, rec("a")), change(c, 4, 3, 0, 0, none, rec("a")))
	puts(t, d, map[int]string{homes + 0: strings.Repeat("x", 256), homes + 2: homeBytes(3, api.Page{})})
	for _, n := range []int{2, 1, 2} {
		p, e := v.Page(n)
		if n == 1 {
			code(t, "Page", e, 0)
		} else if e != api.ErrForm || !reflect.DeepEqual(p, api.Page{}) {
			t.Error(p, e)
		}
	}
	add(t, v, api.ErrForm, change(c, 9, 4, 2, 0, none, none))
	if l, e := v.Leaves(); len(l) != 0 || e != api.ErrForm {
		t.Error(l, e)
	}
	if l, e := v.Undo(2); len(l) != 0 || e != api.ErrForm {
		t.Error(l, e)
	}
}

// New memory.
func TestSharesNothing(t *testing.T) {
	d := plate.New(26)
	v := opens(t, d, small)
	list := []api.Entry{change(a, 3, 0, 0, 0, none, rec("a")), change(a, 4, 3, 0, 1, none, rec("b")), commit(a, 5, 4), change(c, 6, 0, 1, 0, none, rec("c")), commit(b, 6, 0)}
	spare := append(slices.Clone(list), list[0])
	add(t, v, 0, spare[:5]...)
	if !slices.Equal(spare, append(slices.Clone(list), list[0])) {
		t.Error("what was handed in is changed")
	}
	clear(spare)
	force(t, v)
	was := tell(t, v)
	for range 2 {
		p, _ := v.Page(0)
		p.Slots[0] = rec("x")
		p.Slots = append(p.Slots[:1], rec("y"))
		l, _ := v.Leaves()
		l[0].Page.Slots[1] = rec("x")
		l[1].Page.Slots[0] = rec("x")
		clear(l)
		s := v.Sure()
		s[0] = txn(8, 8, 8)
		_ = append(s[:1], txn(8, 8, 8))
		stays(t, v, was)
	}
	l, e := v.Undo(2)
	code(t, "Undo", e, 0)
	clear(l)
	if l, e := v.Undo(2); len(l) != 0 || e != 0 {
		t.Error(l, e)
	}
	force(t, v)
	cycle(d)
	w, done, e := vat.Open(d, small)
	code(t, "Open", e, 0)
	clear(done)
	has(t, w, row(0, "a"), api.Row{Page: 0, Slot: 1, Data: "b"})
}
