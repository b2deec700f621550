package vat_test

import (
	"testing"

	"seneschal/api"
	"seneschal/plate"
	"seneschal/vat"
)

// Words, P19.2 and P19.5: what is Due, and what there is Room for.

func TestDue(t *testing.T) {
	un := func(lsn, prev, next int) api.Entry { return undo(a, lsn, prev, 0, 0, none, none, next) }
	ch := func(lsn, prev int) api.Entry { return change(a, lsn, prev, 0, 0, none, none) }
	for k, x := range []struct {
		want int
		list []api.Entry
	}{
		{0, nil},
		{5, []api.Entry{ch(1, 0)}},
		{8, []api.Entry{ch(1, 0), ch(2, 1)}},
		{11, []api.Entry{ch(1, 0), ch(2, 1), ch(4, 2)}},
		{5, []api.Entry{ch(1, 0), ch(2, 0)}},
		{2, []api.Entry{un(1, 0, 0)}},
		{2, []api.Entry{ch(1, 0), un(2, 1, 0)}},
		{5, []api.Entry{ch(1, 0), ch(2, 1), un(3, 2, 1)}},
		{2, []api.Entry{ch(1, 0), ch(2, 1), un(3, 2, 1), un(4, 3, 0)}},
		{8, []api.Entry{ch(1, 0), ch(2, 1), un(3, 2, 1), ch(4, 3)}},
		{5, []api.Entry{ch(1, 0), ch(2, 1), un(3, 2, 1), ch(4, 3), un(5, 4, 3)}},
		{2, []api.Entry{ch(1, 0), ch(2, 1), un(3, 2, 1), ch(4, 3), un(5, 4, 3), un(6, 5, 0)}},
		{8, []api.Entry{ch(1, 0), un(2, 1, 1), un(3, 2, 2), ch(4, 3)}},
		{0, []api.Entry{ch(1, 0), commit(a, 2, 1)}},
		{0, []api.Entry{ch(1, 0), end(a, 2, 1)}},
		{0, []api.Entry{commit(a, 2, 1)}},
		{0, []api.Entry{end(a, 2, 1)}},
		{0, []api.Entry{commit(a, 2, 1), ch(3, 2)}},
		{0, []api.Entry{ch(1, 0), commit(a, 2, 1), ch(3, 2), ch(4, 3)}},
		{0, []api.Entry{ch(1, 0), end(a, 2, 1), un(3, 2, 1)}},
		// what leads astray: as far as it goes
		{5, []api.Entry{ch(3, 2)}},
		{8, []api.Entry{ch(3, 2), ch(4, 3)}},
		{2, []api.Entry{un(3, 2, 2)}},
		{5, []api.Entry{ch(1, 0), ch(4, 3)}},
		{2, []api.Entry{ch(1, 0), un(4, 3, 3)}},
		// each of these also with others of other transactions
		{10, []api.Entry{ch(1, 0), change(b, 2, 1, 0, 0, none, none)}},
		{10, []api.Entry{change(b, 1, 0, 0, 0, none, none), ch(2, 1)}},
		{15, []api.Entry{ch(1, 0), change(b, 2, 0, 1, 0, none, none), change(c, 1, 0, 2, 0, none, none)}},
		{10, []api.Entry{ch(1, 0), change(b, 2, 0, 1, 0, none, none), change(c, 1, 0, 2, 0, none, none), end(b, 3, 2)}},
		{13, []api.Entry{ch(1, 0), change(c, 1, 0, 1, 0, none, none), ch(2, 1)}},
		// Lsns that don't rise: what was missing comes, and a first one stays the first
		{5, []api.Entry{change(a, 5, 3, 1, 0, none, none), change(a, 3, 0, 2, 0, none, none)}},
		{11, []api.Entry{change(a, 5, 3, 1, 0, none, none), change(a, 3, 0, 2, 0, none, none), change(a, 6, 5, 1, 0, none, none)}},
		{8, []api.Entry{change(a, 5, 3, 1, 0, none, none), change(a, 6, 5, 1, 0, none, none)}},
		{14, []api.Entry{change(a, 5, 3, 1, 0, none, none), change(a, 6, 5, 1, 0, none, none), change(a, 3, 0, 2, 0, none, none), change(a, 7, 6, 1, 0, none, none)}},
		{8, []api.Entry{change(a, 5, 4, 1, 0, none, none), undo(a, 4, 2, 2, 0, none, none, 2), change(a, 6, 5, 1, 0, none, none)}},
		{11, []api.Entry{change(a, 5, 4, 1, 0, none, none), undo(a, 4, 2, 2, 0, none, none, 2), change(a, 6, 5, 1, 0, none, none), change(a, 2, 0, 3, 0, none, none), undo(a, 7, 6, 1, 0, none, none, 6)}},
		{5, []api.Entry{change(a, 2, 0, 1, 0, none, none), change(a, 2, 0, 2, 0, none, none)}},
		{8, []api.Entry{change(a, 1, 0, 3, 0, none, none), change(a, 2, 0, 1, 0, none, none), change(a, 2, 1, 2, 0, none, none)}},
		{5, []api.Entry{change(a, 1, 0, 3, 0, none, none), change(a, 2, 0, 1, 0, none, none), change(a, 2, 1, 2, 0, none, none), undo(a, 3, 2, 2, 0, none, none, 2)}},
	} {
		if x.want != plainDue(x.list) {
			t.Errorf("row %d: read plainly it is %d", k, plainDue(x.list))
		}
		wide := api.Config{Pages: 4, Log: 100, Pool: 4}
		v := opens(t, plate.New(110), wide)
		add(t, v, 0, x.list...)
		if v.Due() != x.want {
			t.Errorf("row %d: %d, wanted %d", k, v.Due(), x.want)
		}
		v = opens(t, plate.New(110), wide) // one by one, and over what a Check leaves
		for _, y := range x.list {
			add(t, v, 0, y)
		}
		if v.Due() != x.want {
			t.Errorf("row %d, one by one: %d, wanted %d", k, v.Due(), x.want)
		}
		v = opens(t, plate.New(110), wide)
		add(t, v, 0, change(c, 900, 0, 3, 31, none, none))
		for _, y := range x.list {
			if y.Page == 3 || y.Txn == c {
				break
			}
			add(t, v, 0, y)
			if due := v.Due(); v.Check() != 0 || v.Due() != due {
				t.Errorf("row %d: %d, and behind a Check %d", k, due, v.Due())
			}
		}
	}
}

// commits: the transactions whose Commit a list has, in order.
func commits(list []api.Entry) []api.Txn {
	var done []api.Txn
	for _, x := range list {
		if x.Kind == api.Commit {
			done = append(done, x.Txn)
		}
	}
	return done
}

// filled is a store whose log has just so much room, and what it has.
func filled(t *testing.T, conf api.Config, room int) (*plate.Plate, *vat.Vat, []api.Entry) {
	t.Helper()
	d := plate.New(vat.Need(conf))
	v := opens(t, d, conf)
	var log []api.Entry
	for v.Room() > room {
		x := commit(txn(8, 1, len(log)+1), 1, 0)
		log = append(log, x)
		add(t, v, 0, x)
		force(t, v)
	}
	if v.Room() != room {
		t.Fatalf("Room %d, wanted %d", v.Room(), room)
	}
	return d, v, log
}

// What is just afforded, and what isn't by one sector.
func TestFullAtTheEdge(t *testing.T) {
	big := []api.Entry{at(1, 1, 0, none, long("a", 200)), at(2, 2, 0, long("a", 200), long("b", 200)), commit(b, 1, 0)}
	two := []api.Entry{change(a, 1, 0, 0, 0, none, none), change(a, 2, 1, 1, 0, none, none)}
	for k, list := range [][]api.Entry{
		{change(a, 1, 0, 0, 0, none, none)},
		{commit(a, 1, 0)},
		{end(a, 1, 0), end(b, 1, 0)},
		two,
		{two[0], change(c, 2, 0, 1, 0, none, none)},
		{two[0], commit(a, 2, 1)},
		{two[0], undo(a, 2, 1, 0, 0, none, none, 0)},
		{two[0], undo(a, 2, 1, 0, 0, none, none, 0), end(a, 3, 2)},
		{two[0], two[1], change(b, 1, 0, 2, 0, none, none), commit(a, 3, 2)},
		big, big[:2], big[:1],
	} {
		need := costs(list) + plainDue(list)
		for log := 16; log < 40; log++ {
			conf := api.Config{Pages: 4, Log: log, Pool: 4}
			for room := max(1, need-3); room <= min(need+1, log); room++ {
				d, v, entries := filled(t, conf, room)
				was := tell(t, v)
				if room < need {
					add(t, v, api.ErrFull, list...)
					stays(t, v, was)
					continue
				}
				add(t, v, api.ErrFull, append([]api.Entry{commit(txn(7, 1, 1), 1, 0)}, list...)...)
				stays(t, v, was)
				add(t, v, 0, list...)
				if v.Room() != room-sectorsOf(list) || v.Due() != plainDue(list) {
					t.Errorf("row %d: Room %d, Due %d", k, v.Room(), v.Due())
				}
				force(t, v)
				cycle(d)
				opens(t, d, conf, commits(append(entries, list...))...)
			}
		}
	}
}

// A transaction that goes on till there is no room can be undone, in any way, and can be committed, whatever is forced in between.
func TestRollbackHasRoom(t *testing.T) {
	for _, size := range []int{0, 1, 30, 100, 150, 195, 200} {
		for way := range 5 {
			conf := api.Config{Pages: 2, Log: 16 + 5*way, Pool: 1}
			d := plate.New(vat.Need(conf))
			v := opens(t, d, conf)
			var own []api.Entry
			was := none
			for n := 1; ; n++ {
				is := long(string(rune('a'+n%26)), size)
				x := change(a, n, n-1, 0, 0, was, is)
				e := v.Add([]api.Entry{x})
				if e == api.ErrFull {
					break
				}
				code(t, "Add", e, 0)
				was, own = is, append(own, x)
				if n%(way+1) == 0 {
					force(t, v)
				}
				if way == 3 {
					check(t, v)
				}
				if v.Room() < v.Due() || v.Due() != 2+3*n {
					t.Fatal(v.Room(), v.Due())
				}
			}
			if len(own) < 2 {
				t.Error(size, way, len(own))
			}
			last := len(own)
			switch way {
			case 0:
				for n := range own {
					x := own[len(own)-1-n]
					last++
					add(t, v, 0, undo(a, last, last-1, 0, 0, x.Is, x.Was, x.Prev))
					force(t, v)
					if v.Room() < v.Due() {
						t.Fatal(v.Room(), v.Due())
					}
				}
				add(t, v, 0, end(a, last+1, last))
			case 1:
				l, e := v.Undo(1)
				if e != 0 || len(l) != len(own)+1 {
					t.Error(l, e)
				}
			case 2:
				add(t, v, 0, commit(a, last+1, last))
				force(t, v)
				has(t, v, row(0, was.Data))
				continue
			default:
				force(t, v)
				cycle(d)
				v = opens(t, d, conf)
			}
			has(t, v)
			if v.Due() != 0 {
				t.Error(v.Due())
			}
		}
	}
}

// What was ahead of a Check, and is no longer needed, makes room; losers' entries stay.
func TestCheckMakesRoom(t *testing.T) {
	conf := api.Config{Pages: 4, Log: 40, Pool: 1}
	d := plate.New(vat.Need(conf))
	v := opens(t, d, conf)
	check(t, v)
	if v.Room() != 40 {
		t.Error(v.Room())
	}
	for n := range 5 { // each in a batch of its own, the third one isn't at its end
		x := txn(1, 1, n+1)
		add(t, v, 0, change(x, 10*n+1, 0, n%3, 0, none, none))
		if n != 2 {
			add(t, v, 0, commit(x, 10*n+2, 10*n+1))
		}
		force(t, v)
	}
	room := v.Room()
	check(t, v)
	if v.Room() <= room || v.Room() > 37 || v.Due() != 5 {
		t.Error(room, v.Room(), v.Due())
	}
	room = v.Room()
	add(t, v, 0, commit(txn(1, 1, 3), 50, 21))
	if v.Due() != 0 || v.Room() != room-1 {
		t.Error(v.Due(), v.Room())
	}
	check(t, v)
	if v.Room() != 40 {
		t.Error(v.Room())
	}
	sure(t, v, txn(1, 1, 1), txn(1, 1, 2), txn(1, 1, 4), txn(1, 1, 5), txn(1, 1, 3))
	acts := d.Acts()
	cycle(d)
	opens(t, d, conf)
	if d.Acts() != acts+4 {
		t.Errorf("%d acts: the Check has left something", d.Acts()-acts)
	}
}

// A Check writes what was changed, each page once, and then nothing but a top.
func TestCheckWritesWhatChanged(t *testing.T) {
	conf := api.Config{Pages: 12, Log: 60, Pool: 10}
	d := plate.New(vat.Need(conf))
	v := opens(t, d, conf)
	checks := func(want int) {
		t.Helper()
		acts := d.Acts()
		check(t, v)
		if d.Acts() != acts+want {
			t.Errorf("%d acts, wanted %d", d.Acts()-acts, want)
		}
	}
	checks(2)
	for n := range 3 {
		v.Page(n + 1)
		add(t, v, 0, at(1+n, 1, n, none, none), commit(txn(3, 1, 1+n), 2, 1))
		checks(2 + 4 + 2)
		checks(2)
	}
	for n := range 12 {
		v.Page(n)
	}
	checks(2)
	x := txn(4, 1, 1)
	for n := range 9 {
		add(t, v, 0, change(x, 9+n, 8*min(n, 1)+n, n, 0, none, none))
	}
	add(t, v, 0, commit(x, 20, 17))
	checks(2 + 2*(4+1) + 2*(4+1) + 2*(1+1) + 2) // a batch, the pages by fours, a top
	checks(2)
	if v.Room() != 60 {
		t.Error(v.Room())
	}
}

// A transaction that goes to and fro till the log is full: each entry that comes is as little work as the first ones.
func TestLongTransaction(t *testing.T) {
	conf := api.Config{Pages: 4, Log: 4096, Pool: 2}
	d := plate.New(vat.Need(conf))
	v := opens(t, d, conf)
	count, last := 0, api.Entry{}
	for {
		n := count + 1
		x := change(a, n, n-1, 3, 0, none, rec("a"))
		if n%2 == 0 {
			x = undo(a, n, n-1, 3, 0, last.Is, last.Was, last.Prev)
		}
		e := v.Add([]api.Entry{x})
		if e == api.ErrFull {
			break
		}
		code(t, "Add", e, 0)
		count, last = n, x
		if v.Due() != 2+3*(n%2) {
			t.Fatal(n, v.Due())
		}
	}
	if count < 50000 || v.Room() < v.Due() {
		t.Error(count, v.Room())
	}
	check(t, v)
	if l, e := v.Undo(1); e != 0 || len(l) != 1+count%2 {
		t.Error(l, e)
	}
	force(t, v)
	cycle(d)
	has(t, opens(t, d, conf))
}

// Sure tells each once, in order, of those that are in the log for sure; a Check takes none away.
func TestSure(t *testing.T) {
	conf := api.Config{Pages: 4, Log: 60, Pool: 4}
	d := plate.New(vat.Need(conf))
	v := opens(t, d, conf)
	add(t, v, 0, commit(c, 1, 0), change(b, 1, 0, 0, 0, none, none), end(a, 1, 0))
	sure(t, v)
	force(t, v)
	sure(t, v, c)
	add(t, v, 0, commit(b, 3, 1), commit(c, 9, 0))
	add(t, v, 0, commit(a, 2, 0))
	sure(t, v, c)
	check(t, v)
	sure(t, v, c, b, a)
	add(t, v, 0, commit(b, 3, 1), commit(txn(5, 1, 1), 1, 0), commit(txn(5, 1, 1), 1, 0))
	sure(t, v, c, b, a)
	force(t, v)
	force(t, v)
	sure(t, v, c, b, a, txn(5, 1, 1))
	cycle(d)
	v = opens(t, d, conf, b, txn(5, 1, 1))
	sure(t, v)
	add(t, v, 0, commit(b, 3, 1))
	force(t, v)
	sure(t, v, b)
}
