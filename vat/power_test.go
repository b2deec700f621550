package vat_test

import (
	"encoding/binary"
	"slices"
	"strings"
	"testing"

	"seneschal/api"
	"seneschal/mend"
	"seneschal/plate"
	"seneschal/scroll"
	"seneschal/slab"
	"seneschal/vat"
)

// P19.6: each act, each fate.

// fatesOf are all fates that so many writes can have.
func fatesOf(writes int) [][]int {
	all := [][]int{nil}
	for range writes {
		var more [][]int
		for _, fates := range all {
			for fate := range 3 {
				more = append(more, append(slices.Clone(fates), fate))
			}
		}
		all = more
	}
	return all
}

var tiny = api.Config{Pages: 5, Log: 30, Pool: 1}

// part is a call of the play below, and which entries come to the log by it.
type part func(v *vat.Vat) ([]api.Entry, api.Errno)

func adds(list ...api.Entry) part {
	return func(v *vat.Vat) ([]api.Entry, api.Errno) { return list, v.Add(list) }
}

func undoes(client int) part {
	return func(v *vat.Vat) ([]api.Entry, api.Errno) { return v.Undo(client) }
}

func looks(n int) part {
	return func(v *vat.Vat) ([]api.Entry, api.Errno) {
		_, e := v.Page(n)
		return nil, e
	}
}

func forces(v *vat.Vat) ([]api.Entry, api.Errno) { return nil, v.Force() }

func checks(v *vat.Vat) ([]api.Entry, api.Errno) { return nil, v.Check() }

// play is what happens to a store: a transaction that commits, one that is long under way over a Check, one that is undone, and so on; the pages leave the one frame again and again.
func play() []part {
	x, y := long("x", 150), long("y", 120)
	return []part{
		adds(change(a, 1, 0, 0, 0, none, rec("a")), change(a, 2, 1, 1, 0, none, x), commit(a, 3, 2)),
		adds(change(c, 1, 0, 2, 0, none, rec("c"))),
		forces,
		adds(change(b, 4, 0, 0, 0, rec("a"), rec("b")), change(b, 5, 4, 1, 0, x, y)),
		adds(change(c, 2, 1, 3, 1, none, rec("c3")), commit(b, 6, 5)),
		checks,
		adds(at(1, 6, 1, y, x), at(2, 7, 0, rec("b"), none), commit(txn(3, 1, 1), 7, 6)),
		looks(4),
		undoes(2),
		forces,
		adds(at(3, 8, 4, none, x), at(3, 9, 4, x, y), commit(txn(3, 1, 3), 10, 8)),
		undoes(3),
		checks,
		adds(at(5, 10, 1, x, rec("z")), commit(txn(3, 1, 5), 11, 10)),
		adds(at(6, 20, 2, none, rec("lost"))),
		forces,
	}
}

// outcome is what is known when the power has gone in a play: the transactions that may be committed, in order, with what each leaves; how many of them are so for sure.
type outcome struct {
	names  []api.Txn
	left   [][]api.Row
	forced int
	sure   []api.Txn
}

// left are the records behind each Commit of the play.
var left = [][]api.Row{
	nil,
	{row(0, "a"), row(1, strings.Repeat("x", 150))},
	{row(0, "b"), row(1, strings.Repeat("y", 120))},
	{row(0, "b"), row(1, strings.Repeat("x", 150))},
	{row(0, "b"), row(1, strings.Repeat("x", 150)), row(4, strings.Repeat("y", 120))},
	{row(0, "b"), row(1, "z"), row(4, strings.Repeat("y", 120))},
}

// run plays till the power goes in an act; false: it doesn't.
func run(t *testing.T, act int) (*plate.Plate, outcome, bool) {
	t.Helper()
	d := plate.New(vat.Need(tiny))
	d.Arm(act)
	o := outcome{left: left}
	v, done, e := vat.Open(d, tiny)
	if e != 0 {
		code(t, "Open", e, api.ErrDown)
		if len(done) != 0 {
			t.Fatal(done)
		}
		return d, o, true
	}
	for k, call := range play() {
		list, e := call(v)
		o.names = append(o.names, commits(list)...)
		o.sure = v.Sure()
		if e == api.ErrDown {
			return d, o, true
		}
		if e != 0 || v.Room() < v.Due() {
			t.Fatalf("call %d: %d, Room %d, Due %d", k, e, v.Room(), v.Due())
		}
		o.forced = len(o.sure)
	}
	return d, o, false
}

// mends: the store opens, and has what is told, by this opening and by others ahead of it.
func mends(t *testing.T, d *plate.Plate, o outcome, told []api.Txn) {
	t.Helper()
	v, done, e := vat.Open(d, tiny)
	if e != 0 {
		t.Fatalf("Open: %d", e)
	}
	told = joined(joined(slices.Clone(o.sure), told), done)
	if len(told) < o.forced || len(told) > len(o.names) || !slices.Equal(told, o.names[:len(told)]) {
		t.Fatalf("told are %v, %d of %v are sure", told, o.forced, o.names)
	}
	leaves, _ := v.Leaves()
	if rows := mend.Rows(leaves); !slices.Equal(rows, o.left[len(told)]) {
		t.Fatalf("%v, wanted %v", rows, o.left[len(told)])
	}
}

// entriesOf are all entries of the play, those of the undoings too, as they come into the log.
func entriesOf(t *testing.T) []api.Entry {
	t.Helper()
	d := plate.New(vat.Need(tiny))
	v := opens(t, d, tiny)
	var all []api.Entry
	for _, call := range play() {
		list, e := call(v)
		code(t, "the call", e, 0)
		all = append(all, list...)
	}
	return all
}

// logOf: how many entries stood ahead of a plate's log, and what it has.
func logOf(t *testing.T, d *plate.Plate) (int, []api.Entry) {
	t.Helper()
	m, turn := api.Mark{First: 1, Gen: 1}, uint64(0)
	for n := range 2 {
		if s := []byte(raw(d, n)); len(s) > 0 && s[0] == 'T' && binary.BigEndian.Uint64(s[4:]) > turn {
			turn = binary.BigEndian.Uint64(s[4:])
			m = api.Mark{At: int(binary.BigEndian.Uint64(s[12:])), First: int(binary.BigEndian.Uint64(s[20:])), Gen: int(binary.BigEndian.Uint32(s[28:]))}
		}
	}
	_, list, e := scroll.Open(d, 6+tiny.Pages, tiny.Log, m)
	code(t, "the log", e, 0)
	return m.First - 1, list
}

// follows: each page that a plate has, as a copy too, is of a version whose entries are in the log, or were.
func follows(t *testing.T, d *plate.Plate, all []api.Entry) {
	t.Helper()
	ahead, list := logOf(t, d)
	if !slices.Equal(list, all[ahead:ahead+len(list)]) {
		t.Fatalf("the log has %v behind %d", list, ahead)
	}
	known := all[:ahead+len(list)]
	for n := 2; n < 6+tiny.Pages; n++ {
		s := raw(d, n)
		if s == "" || s == zeros {
			continue
		}
		page := int(binary.BigEndian.Uint32([]byte(s[244:])))
		p, e := slab.Decode(s[:240])
		is := func(x api.Entry) bool { return x.Kind <= api.Undo && x.Page == page && x.Lsn == p.Lsn }
		if e != 0 || !slices.ContainsFunc(known, is) {
			t.Fatalf("the sector %d has the page %d: %v, %d; the log %v", n, page, p, e, known)
		}
	}
}

// In each act of the play, with each fate of what waited.
func TestEachAct(t *testing.T) {
	all := entriesOf(t)
	count := 0
	for act := 1; ; act++ {
		d, _, cut := run(t, act)
		if !cut {
			if act < 60 {
				t.Error("too few acts", act)
			}
			break
		}
		for _, fates := range fatesOf(d.Waits()) {
			d, o, _ := run(t, act)
			d.On(fates)
			follows(t, d, all)
			mends(t, d, o, nil)
			count++
		}
	}
	if count < 300 {
		t.Error(count)
	}
}

// In each act of the play, and in each act of the opening behind that, with each fate there.
func TestEachActOfAnOpening(t *testing.T) {
	count := 0
	for act := 1; ; act++ {
		_, _, cut := run(t, act)
		if !cut {
			break
		}
		for fate := range 3 {
			base, o, _ := run(t, act)
			base.On([]int{1, fate, 1, fate})
			for second := 1; ; second++ {
				d := again(t, base)
				d.Arm(second)
				_, done, e := vat.Open(d, tiny)
				if e == 0 {
					break
				}
				code(t, "Open", e, api.ErrDown)
				all := fatesOf(d.Waits())
				for k := range min(len(all), 5) {
					d := again(t, base)
					d.Arm(second)
					vat.Open(d, tiny)
					d.On(all[(k*len(all)/5+act)%len(all)])
					mends(t, d, o, done)
					count++
				}
			}
		}
	}
	if count < 5000 {
		t.Error(count)
	}
}

// An opening that is cut off again and again, with each one's acts one more, comes to its end.
func TestOpeningsCutOffAgainAndAgain(t *testing.T) {
	for act := 1; ; act++ {
		d, o, cut := run(t, act)
		if !cut {
			break
		}
		d.On([]int{act % 3, 1})
		var told []api.Txn
		for k := 1; k < 40; k++ {
			d.Arm(k)
			_, done, e := vat.Open(d, tiny)
			told = joined(told, done)
			if e == 0 {
				break
			}
			code(t, "Open", e, api.ErrDown)
			d.On([]int{(k + act) % 3, 1, k % 3})
		}
		d.Arm(0)
		mends(t, d, o, told)
	}
}

// A Check whose last Sync the power goes in may have cut the log: what it made sure is told by Sure, since nobody else can tell it.
func TestSureOfACheckThatIsCutOff(t *testing.T) {
	for fate := range 3 {
		d := plate.New(26)
		v := opens(t, d, small)
		add(t, v, 0, change(a, 1, 0, 0, 0, none, rec("a")), commit(a, 2, 1))
		d.Arm(2 + 4 + 2)
		code(t, "Check", v.Check(), api.ErrDown)
		down(t, v, 15, 0, 2, a)
		d.On([]int{fate})
		if fate == 1 {
			v = opens(t, d, small)
		} else {
			v = opens(t, d, small, a)
		}
		has(t, v, row(0, "a"))
	}
}

// The log goes round and round, in all its generations, and nothing elder comes back.
func TestRoundAndRound(t *testing.T) {
	d := plate.New(26)
	v := opens(t, d, small)
	lsn, was := 1, none
	for n := 1; n < 300; n++ {
		x, is := txn(1, 1, n), letters(n, 20+n%150)
		add(t, v, 0, change(x, lsn, 0, n%2, 0, none, none), change(x, lsn+1, lsn, 3, 0, was, is), commit(x, lsn+2, lsn+1))
		lsn, was = lsn+3, is
		switch n % 7 {
		case 2, 5:
			check(t, v)
		case 3:
			force(t, v)
			add(t, v, 0, change(txn(2, 1, n), lsn, 0, 3, 1, none, rec("lost")))
			if n%2 == 0 {
				force(t, v)
			}
			cycle(d, 1)
			v = opens(t, d, small, x)
			p, _ := v.Page(3)
			lsn = p.Lsn + 1
		}
		has(t, v, api.Row{Page: 3, Slot: 0, Data: is.Data})
	}
}
