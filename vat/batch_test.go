package vat_test

import (
	"encoding/binary"
	"slices"
	"testing"

	"seneschal/api"
	"seneschal/entry"
	"seneschal/plate"
	"seneschal/vat"
)

// More than can be forced at once.

// letters is a record that tells its number.
func letters(n, size int) api.Slot {
	s := []byte(long("-", size).Data)
	for i := range s {
		s[i] = byte('a' + n%26)
		n /= 26
	}
	return rec(string(s))
}

// changes is a transaction that changes one record so many times, from this Lsn on.
func changes(t api.Txn, lsn, count, page, size int, was api.Slot) []api.Entry {
	var list []api.Entry
	prev := 0
	for n := range count {
		is := letters(n, size)
		list = append(list, change(t, lsn+n, prev, page, 0, was, is))
		was, prev = is, lsn+n
	}
	return list
}

func committed(list []api.Entry) []api.Entry {
	last := list[len(list)-1]
	return append(list, commit(last.Txn, last.Lsn+1, last.Lsn))
}

// What waits may come to be more than a batch: then it is forced, and all goes on.
func TestMoreWaitsThanABatch(t *testing.T) {
	conf := api.Config{Pages: 2, Log: 4096, Pool: 2}
	d := plate.New(vat.Need(conf))
	v := opens(t, d, conf)
	acts := d.Acts()
	was := none
	var done []api.Txn
	for n := 1; n <= 80; n++ {
		x := txn(1, 1, n)
		list := committed(changes(x, 100*n, 8, 0, 200, was))
		was = list[7].Is
		done = append(done, x)
		add(t, v, 0, list...)
		if told := v.Sure(); len(told) > 0 != (d.Acts() > acts) || !slices.Equal(told, done[:len(told)]) {
			t.Fatalf("%d, %d acts, Sure: %v", n, d.Acts()-acts, told)
		}
	}
	// 80 such are some 1130 sectors.
	if told, parts := v.Sure(), batches(d, conf); len(told) < 60 || len(told) == 80 || len(parts) != 1 || d.Acts() != acts+parts[0]+1 {
		t.Error(len(told), parts, d.Acts()-acts)
	}
	force(t, v)
	sure(t, v, done...)
	cycle(d)
	v = opens(t, d, conf, done...)
	has(t, v, row(0, was.Data))
}

// batches: how many sectors each batch of a log has, from its beginning on.
func batches(d *plate.Plate, conf api.Config) []int {
	var list []int
	for n := 0; n < conf.Log; n += list[len(list)-1] {
		s := raw(d, 6+conf.Pages+n)
		if s == zeros {
			break
		}
		list = append(list, int(binary.BigEndian.Uint16([]byte(s[20:]))))
	}
	return list
}

// cutOff: a list is added and forced, and the power goes in an act of that, of which the adding makes so many.
func cutOff(t *testing.T, d *plate.Plate, v *vat.Vat, list []api.Entry, adding, act int, fates ...int) {
	t.Helper()
	acts, room, due, told := d.Acts(), v.Room(), v.Due(), v.Sure()
	d.Arm(act)
	if act <= adding {
		add(t, v, api.ErrDown, list...)
		told = v.Sure()
	} else {
		add(t, v, 0, list...)
		room, due, told = v.Room(), v.Due(), v.Sure()
		code(t, "Force", v.Force(), api.ErrDown)
	}
	if d.Acts() != acts+act {
		t.Fatalf("%d acts, wanted %d", d.Acts()-acts, act)
	}
	down(t, v, room, due, 2, told...)
	d.On(fates)
}

// plainParts: how many sectors each batch has of changes and a Commit that come at once, behind so many of their transaction, while there is so much room: each as many as can be, but so that what is changed then can be undone, if that can be.
func plainParts(ahead int, list []api.Entry, room int) []int {
	var parts []int
	done := 0
	for sectorsOf(list[done:]) > 1024 {
		bytes, safe, most := 0, 0, 0
		for n, x := range list[done:] {
			bytes += bytesOf(x)
			sectors := (bytes + 231) / 232
			if sectors > 1024 {
				break
			}
			most = n + 1
			if room-sectors >= 2+3*(ahead+done+most) {
				safe = most
			}
		}
		if safe == 0 {
			safe = most
		}
		parts = append(parts, sectorsOf(list[done:done+safe]))
		room -= parts[len(parts)-1]
		done += safe
	}
	return append(parts, sectorsOf(list[done:]))
}

// A list that is too long to be forced at once: wherever it is cut off, it can be undone.
func TestLongList(t *testing.T) {
	parted := 0
	for _, log := range []int{1100, 1500, 1700, 2100, 2600, 3300, 4096} {
		for _, size := range []int{200, 102} {
			conf := api.Config{Pages: 2, Log: log, Pool: 2}
			cost := costs(changes(a, 1, 20, 0, size, letters(1, size))[10:11])
			list := committed(changes(a, 1, (log-2)/cost, 0, size, none))
			begin := func() (*plate.Plate, *vat.Vat) {
				d := plate.New(vat.Need(conf))
				return d, opens(t, d, conf)
			}
			d, v := begin()
			acts := d.Acts()
			add(t, v, 0, list...)
			adding := d.Acts() - acts
			if v.Due() != 0 || v.Room() < 0 {
				t.Error(v.Room(), v.Due())
			}
			sure(t, v)
			force(t, v)
			sure(t, v, a)
			parts := batches(d, conf)
			if want := plainParts(0, list, log); !slices.Equal(parts, want) {
				t.Errorf("a log of %d: batches of %v, wanted %v", log, parts, want)
			}
			at := 0
			for i, n := range parts {
				if n > 1024 || n < 1 {
					t.Fatal(parts)
				}
				at += n + 1
				if i == len(parts)-1 {
					break
				}
				parted++
				for _, act := range []int{at - 1, at, at + 1} { // the last sector, the Sync, and what is behind it
					for fate := range 3 {
						d, v := begin()
						cutOff(t, d, v, list, adding, act, fate)
						has(t, opens(t, d, conf))
					}
				}
			}
			if d.Acts() != acts+at {
				t.Errorf("%d acts, wanted %d", d.Acts()-acts, at)
			}
			for fate := range 3 {
				d, v := begin()
				cutOff(t, d, v, list, adding, at, fate)
				if fate == 1 {
					has(t, opens(t, d, conf, a), row(0, list[len(list)-2].Is.Data))
				} else {
					has(t, opens(t, d, conf))
				}
			}
			cycle(d)
			has(t, opens(t, d, conf, a), row(0, list[len(list)-2].Is.Data))
		}
	}
	if parted < 8 {
		t.Error("too few lists are too long", parted)
	}
}

// There may be no place in a long list, or none but at its beginning, behind which there is room for its undoing; it is added all the same.
func TestLongListThatCantBeUndoneInItsMidst(t *testing.T) {
	conf := api.Config{Pages: 2, Log: 4096, Pool: 2}
	for ahead := 820; ahead <= 853; ahead++ {
		if ahead%10 > 0 && ahead < 842 {
			continue
		}
		d := plate.New(vat.Need(conf))
		v := opens(t, d, conf)
		own := changes(a, 1, ahead, 0, 200, none)
		for _, x := range own {
			add(t, v, 0, x)
		}
		force(t, v)
		parts, room := batches(d, conf), v.Room()
		last := own[ahead-1]
		for n := range (room - 2) / 3 {
			is := letters(7*n, 200)
			last = change(a, last.Lsn+1, last.Lsn, 0, 0, last.Is, is)
			own = append(own, last)
		}
		own = committed(own)
		want := append(parts, plainParts(ahead, own[ahead:], room)...)
		add(t, v, 0, own[ahead:]...)
		force(t, v)
		sure(t, v, a)
		if parts = batches(d, conf); len(parts) < 4 || !slices.Equal(parts, want) {
			t.Errorf("behind %d: batches of %v, wanted %v", ahead, parts, want)
		}
		has(t, v, row(0, last.Is.Data))
		cycle(d)
		has(t, opens(t, d, conf, a), row(0, last.Is.Data))
	}
}

// A list that would be parted by what waits is kept whole: there needn't be room for the undoing of a part of it.
func TestListBehindMuchThatWaits(t *testing.T) {
	list := committed(changes(b, 1, 30, 0, 200, none))
	cost := costs(list)
	for log := 1058; log <= 1082; log += 4 {
		conf := api.Config{Pages: 2, Log: log, Pool: 2}
		begin := func() (*plate.Plate, *vat.Vat, []api.Txn) {
			d := plate.New(vat.Need(conf))
			v := opens(t, d, conf)
			var done []api.Txn
			for v.Room() > cost {
				n := len(done) + 1
				ahead := []api.Entry{commit(txn(8, 1, n), 1, 0)}
				if v.Room() > cost+8 {
					ahead = committed(changes(txn(8, 1, n), 10*n, 4, 1, 200, none))
					x := ahead[3]
					ahead = append(ahead[:4], change(x.Txn, x.Lsn+1, x.Lsn, 1, 0, x.Is, none), commit(x.Txn, x.Lsn+2, x.Lsn+1))
				}
				done = append(done, ahead[0].Txn)
				add(t, v, 0, ahead...)
			}
			sure(t, v)
			return d, v, done
		}
		d, v, done := begin()
		acts := d.Acts()
		add(t, v, 0, list...)
		adding := d.Acts() - acts
		force(t, v)
		all := d.Acts() - acts
		sure(t, v, append(done, b)...)
		first := batches(d, conf)[0] + 1
		for _, act := range []int{1, first - 1, first, first + 1, (first + all) / 2, all - 1, all} {
			for fate := range 3 {
				if act > all {
					break // there was one batch
				}
				d, v, done := begin()
				cutOff(t, d, v, list, adding, act, fate)
				var want []api.Row
				switch {
				case fate == 1 && act >= all-1:
					done = append(done, b)
					want = append(want, row(0, list[29].Is.Data))
				case act <= first && (fate != 1 || act < first-1):
					done = nil
				}
				has(t, opens(t, d, conf, done...), want...)
			}
		}
	}
}

// sized is a transaction of changes of one record and its Commit, of just so many bytes.
func sized(t *testing.T, x api.Txn, page, bytes int) []api.Entry {
	t.Helper()
	list := changes(x, 1, 600, page, 200, none)
	n := 0
	for bytes > 800 {
		bytes -= bytesOf(list[n])
		n++
	}
	for size := range 201 {
		for next := range 201 {
			tail := committed([]api.Entry{
				change(x, n+1, n, page, 0, list[n-1].Is, letters(1, size)),
				change(x, n+2, n+1, page, 0, letters(1, size), letters(2, next)),
			})
			if bytesOf(tail...) == bytes {
				return slices.Clip(append(list[:n], tail...))
			}
		}
	}
	t.Fatal("there is none", bytes)
	return nil
}

// Just as many bytes as can be forced at once, and one more.
func TestGreatestBatch(t *testing.T) {
	conf := api.Config{Pages: 2, Log: 4096, Pool: 2}
	const most = 1024 * 232
	for more := range 2 {
		d := plate.New(vat.Need(conf))
		v := opens(t, d, conf)
		list := sized(t, a, 0, most+more)
		acts := d.Acts()
		add(t, v, 0, list...)
		if (d.Acts() > acts) != (more > 0) {
			t.Error("more", more, "acts", d.Acts()-acts)
		}
		force(t, v)
		if parts := batches(d, conf); len(parts) != 1+more || parts[0]+parts[len(parts)-1] < 1025 {
			t.Error("more", more, "batches", parts)
		}
		d = plate.New(vat.Need(conf)) // behind the greatest batch of a list comes its rest
		v = opens(t, d, conf)
		rest := committed(changes(b, 1, 100, 1, 200, none))
		add(t, v, 0, slices.Concat(list, rest)...)
		force(t, v)
		second := []api.Entry{rest[0], list[len(list)-1]}[more]
		x, _, _ := entry.Decode(raw(d, 6+conf.Pages+batches(d, conf)[0])[24:])
		if len(batches(d, conf)) != 2 || x != second {
			t.Errorf("more %d: batches of %v, the second one begins with %v", more, batches(d, conf), x)
		}
		for _, ahead := range []int{2000, most / 2, most - 2000} {
			d := plate.New(vat.Need(conf))
			v := opens(t, d, conf)
			acts := d.Acts()
			add(t, v, 0, sized(t, a, 0, ahead)...)
			list := sized(t, b, 1, most-ahead+more)
			add(t, v, 0, list...)
			if (d.Acts() > acts) != (more > 0) {
				t.Error("more", more, "behind", ahead, "acts", d.Acts()-acts)
			}
		}
	}
}
