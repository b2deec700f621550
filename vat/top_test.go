package vat_test

import (
	"encoding/binary"
	"math"
	"slices"
	"strings"
	"testing"

	"seneschal/api"
	"seneschal/plate"
	"seneschal/scroll"
	"seneschal/vat"
)

// P19.1: tops.

// Which top counts is seen from the generation that is told, and from the mark, at which each row's store has a log of its own.
func TestWhichTopCounts(t *testing.T) {
	one, two := topBytes(1, 3, 5, 7), topBytes(2, 20, 9, 8)
	big := uint64(1) << 63
	for k, x := range []struct {
		zero, one string
		gen, at   int // of the mark; gen 0: there is none
		turn      uint64
	}{
		{zeros, zeros, 1, 0, 0},
		{zeros, "", 1, 0, 0},
		{zeros, strings.Repeat("x", 256), 1, 0, 0},
		{zeros, topBytes(0, 3, 5, 7), 1, 0, 0},
		{"", zeros, 0, 0, 0},
		{"", "", 0, 0, 0},
		{zeros[1:] + "x", zeros, 0, 0, 0},
		{"x" + zeros[1:], zeros, 0, 0, 0},
		{topBytes(0, 3, 5, 7), zeros, 0, 0, 0},
		{topBytes(0, 0, 1, 1), topBytes(0, 0, 1, 1), 0, 0, 0},
		{zeros, one, 7, 3, 1},
		{"", one, 7, 3, 1},
		{strings.Repeat("x", 256), one, 7, 3, 1},
		{two, zeros, 8, 20, 2},
		{two, "", 8, 20, 2},
		{two, one, 8, 20, 2},
		{two, topBytes(3, 3, 5, 7), 7, 3, 3},
		{topBytes(6, 3, 5, 7), topBytes(6, 20, 9, 8), 7, 3, 6}, // none is greater: the first one
		{topBytes(256, 3, 5, 7), topBytes(255, 20, 9, 8), 7, 3, 256},
		{topBytes(256, 3, 5, 7), topBytes(257, 20, 9, 8), 8, 20, 257},
		{topBytes(big, 3, 5, 7), topBytes(big-1, 20, 9, 8), 7, 3, big},
		{topBytes(big, 3, 5, 7), topBytes(big+1, 20, 9, 8), 8, 20, big + 1},
		{topBytes(big-2, 3, 5, 7), zeros, 7, 3, big - 2},
		{topBytes(1, 3, 5, 7), zeros, 7, 3, 1}, // in the other sector: that makes no odds
		{zeros, topBytes(2, 3, 5, 7), 7, 3, 2},
		{topBytes(4, 0, 1, 1), one, 1, 0, 4},
		{topBytes(4, 1<<40, 1<<40, 1<<20-1), one, 1<<20 - 1, 1 << 40, 4},
		// what tells none, whatever its turn is
		{topBytes(4, 1<<40+1, 5, 8), one, 7, 3, 1},
		{topBytes(4, -1, 5, 8), one, 7, 3, 1},
		{topBytes(4, math.MinInt, 5, 8), one, 7, 3, 1},
		{topBytes(4, math.MaxInt, 5, 8), one, 7, 3, 1},
		{topBytes(4, 3, 0, 8), one, 7, 3, 1},
		{topBytes(4, 3, 1<<40+1, 8), one, 7, 3, 1},
		{topBytes(4, 3, -1, 8), one, 7, 3, 1},
		{topBytes(4, 3, math.MinInt+1, 8), one, 7, 3, 1},
		{topBytes(4, 3, 5, 0), one, 7, 3, 1},
		{topBytes(4, 3, 5, 1<<30+1), one, 7, 3, 1},
		{topBytes(4, 3, 5, 1<<32-1), one, 7, 3, 1},
		{"top" + two[3:], one, 7, 3, 1},
		{"TOP " + two[4:], one, 7, 3, 1},
		{"TOQ\x00" + two[4:], one, 7, 3, 1},
		{two[:255] + "\x01", one, 7, 3, 1},
		{two[:32] + "\x01" + two[33:], one, 7, 3, 1},
		{two[:32] + " " + two[33:], one, 7, 3, 1},
		{zeros, two[:255] + "\x01", 1, 0, 0},
		{two[:255] + "\x01", one[:255] + "\x01", 0, 0, 0},
		{two[:255] + "\x01", zeros, 0, 0, 0},
	} {
		d := plate.New(26)
		puts(t, d, map[int]string{0: x.zero, 1: x.one})
		if x.gen == 0 {
			acts := d.Acts()
			refuses(t, d, small, api.ErrForm)
			if d.Acts() != acts {
				t.Errorf("row %d: %d acts", k, d.Acts()-acts)
			}
			continue
		}
		v := opens(t, d, small)
		first := map[int]int{0: 1, 3: 5, 20: 9, 1 << 40: 1 << 40}[x.at]
		want := []string{topBytes(x.turn+1, x.at, first, x.gen+1), topBytes(x.turn+2, x.at, first, x.gen+1)}
		got := []string{raw(d, int((x.turn+1)%2)), raw(d, int(x.turn%2))}
		if v.Gen() != x.gen+1 || !slices.Equal(got, want) {
			t.Errorf("row %d: Gen %d, %x", k, v.Gen(), got)
		}
	}
}

// The mark tells where the log begins, and the generation up to which batches count.
func TestTopsMark(t *testing.T) {
	for gen := 1; gen < 5; gen++ {
		d := plate.New(26)
		l, _, _ := scroll.Open(d, logAt, 16, api.Mark{At: 21, First: 8, Gen: 3})
		for n := range 3 {
			l.Append(at(n+1, n+1, n, none, rec("a")))
			l.Append(commit(txn(3, 1, n+1), n+2, n+1))
			l.Force()
		}
		puts(t, d, map[int]string{0: topBytes(6, 22, 10, gen)})
		done := []api.Txn{txn(3, 1, 2), txn(3, 1, 3)}
		want := topBytes(8, 24, 14, gen+1)
		if gen < 2 {
			done, want = nil, topBytes(8, 22, 10, gen+1)
		}
		v := opens(t, d, small, done...)
		if raw(d, 0) != want || raw(d, 1) != topBytes(7, 22, 10, gen+1) || v.Gen() != gen+1 {
			t.Errorf("Gen %d", gen)
		}
	}
}

// Each bit of a top counts: but for those of numbers that it may tell, too.
func TestEachBitOfATop(t *testing.T) {
	good := topBytes(6, 22, 10, 3)
	for bit := range 256 * 8 {
		s := []byte(good)
		s[bit/8] ^= 1 << (bit % 8)
		d := plate.New(26)
		puts(t, d, map[int]string{0: string(s), 1: topBytes(5, 1, 2, 9)})
		v, _, e := vat.Open(d, small)
		if gen := int(binary.BigEndian.Uint32(s[28:])); gen >= 1<<20 && gen <= 1<<30 {
			code(t, "Open", e, api.ErrLast)
			continue
		}
		code(t, "Open", e, 0)
		counts := strings.HasPrefix(raw(d, 1), string(s[:4])) && raw(d, 1)[12:28] == string(s[12:28])
		at := bit / 8
		may := at >= 4 && at < 32 && strings.Trim(string(s[12:14]), "\x00") == "" && strings.Trim(string(s[20:22]), "\x00") == ""
		if counts && !may || !counts && v.Gen() != 10 {
			t.Errorf("bit %d: it counts: %v, Gen %d", bit, counts, v.Gen())
		}
	}
}

// Where generations end, and turns: that is told ahead of all acts.
func TestLast(t *testing.T) {
	for k, x := range []struct {
		turn uint64
		gen  int
		last bool // there is none behind that
	}{
		{1, 1<<20 - 2, false},
		{1, 1<<20 - 1, false},
		{1, 1 << 20, true},
		{1, 1<<20 + 1, true},
		{1, 1 << 30, true},
		{1 << 63, 1<<20 - 1, false},
		{1<<64 - 1<<32 - 1, 1, false},
		{1<<64 - 1<<32, 1, false},
		{1<<64 - 1<<32 + 1, 1, true},
		{1<<64 - 2, 1, true},
		{1<<64 - 1, 1, true},
	} {
		d := plate.New(26)
		puts(t, d, map[int]string{1: topBytes(x.turn, 0, 1, x.gen), homes: strings.Repeat("x", 256)})
		acts := d.Acts()
		if x.last {
			refuses(t, d, small, api.ErrLast)
			if d.Acts() != acts {
				t.Errorf("row %d: %d acts", k, d.Acts()-acts)
			}
			continue
		}
		refuses(t, d, small, api.ErrForm) // that is the home's
		if d.Acts() != acts+2 {
			t.Errorf("row %d: %d acts", k, d.Acts()-acts)
		}
		puts(t, d, map[int]string{homes: zeros})
		if x.gen+1 == 1<<20 || x.turn+1 > 1<<64-1<<32 {
			refuses(t, d, small, api.ErrLast)
		} else if v := opens(t, d, small); v.Gen() != x.gen+2 {
			t.Errorf("row %d: %d", k, v.Gen())
		}
	}
}

// Tops take turns, whatever calls write them, and the one that counts is never in danger.
func TestTopsTakeTurns(t *testing.T) {
	d := plate.New(26)
	v := opens(t, d, small)
	turn := 2
	for n := 1; n < 20; n++ {
		add(t, v, 0, at(n, n, n%4, none, none), commit(txn(3, 1, n), n+1, n))
		other := raw(d, turn%2)
		if n%5 == 4 {
			cycle(d)
			v, _, _ = vat.Open(d, small)
			turn++
			other = raw(d, turn%2)
		} else {
			check(t, v)
		}
		turn++
		if s := raw(d, turn%2); s[:12] != topBytes(uint64(turn), 0, 0, 0)[:12] || raw(d, (turn+1)%2) != other {
			t.Fatalf("turn %d: %x, %x", turn, s[:32], other[:32])
		}
	}
}

// The first top is written, and is sure, ahead of all else; an opening that is cut off in that tells nothing.
func TestFirstTop(t *testing.T) {
	for act := 1; act <= 2; act++ {
		for fate := range 3 {
			d := plate.New(26)
			v := opens(t, d, small)
			add(t, v, 0, commit(a, 1, 0))
			check(t, v)
			add(t, v, 0, commit(b, 1, 0))
			force(t, v)
			puts(t, d, map[int]string{homes + 1: "", twins: homeBytes(1, api.Page{Lsn: 9}), twins + 1: zeros})
			// The turn 3, in the sector 1, is the one that counts; now the fourth comes into the sector 0.
			was := images(d)
			d.Arm(act)
			refuses(t, d, small, api.ErrDown)
			d.On([]int{fate})
			was[0] = []string{was[0], topBytes(4, 1, 2, 3), ""}[fate]
			if !slices.Equal(images(d), was) {
				t.Error(act, fate)
			}
			opens(t, d, small, b)
		}
	}
}

// Behind the log's opening ErrDown tells what is done, ahead of it not; no other error does.
func TestDoneBesideErrors(t *testing.T) {
	wide := api.Config{Pages: 4, Log: 64, Pool: 2}
	lay := func(more ...api.Entry) *plate.Plate {
		d := plate.New(74)
		v := opens(t, d, wide)
		add(t, v, 0, append([]api.Entry{commit(b, 1, 0), commit(a, 1, 0), at(1, 3, 2, none, rec("a"))}, more...)...)
		force(t, v)
		puts(t, d, map[int]string{homes + 1: "", twins + 1: homeBytes(1, api.Page{Lsn: 3, Slots: []api.Slot{rec("b")}})})
		return d
	}
	// The acts: a top; the home that was torn; the batch of an Undo and an End; the page; a top.
	for act := 1; act <= 2+2+2+4+2; act++ {
		for fate := range 3 {
			d := lay()
			d.Arm(act)
			if act <= 4 {
				refuses(t, d, wide, api.ErrDown)
			} else {
				refuses(t, d, wide, api.ErrDown, b, a)
			}
			d.On([]int{fate})
			if act < 11 || fate != 1 {
				has(t, opens(t, d, wide, b, a), row(1, "b"))
			} else {
				has(t, opens(t, d, wide), row(1, "b")) // the last top was done
			}
		}
	}
	has(t, opens(t, lay(), wide, b, a), row(1, "b"))
	d := lay()
	puts(t, d, map[int]string{homes + 2: strings.Repeat("x", 256)})
	refuses(t, d, wide, api.ErrForm)
	// A home has another record than the log says.
	d = lay(change(c, 9, 0, 3, 0, none, rec("c")), change(c, 10, 9, 3, 0, rec("c"), rec("d")), commit(c, 12, 10))
	puts(t, d, map[int]string{homes + 3: homeBytes(3, api.Page{Lsn: 9, Slots: []api.Slot{rec("x")}})})
	refuses(t, d, wide, api.ErrSlot)
	refuses(t, d, wide, api.ErrSlot)
}

// Layer 18's errors of what the log has.
func TestOpenOfOtherLogs(t *testing.T) {
	full := long("x", 200)
	for k, x := range []struct {
		want api.Errno
		list []api.Entry
	}{
		{api.ErrArg, []api.Entry{commit(a, 1, 0), change(c, 9, 0, 4, 0, none, rec("c"))}},
		{api.ErrArg, []api.Entry{commit(a, 1, 0), change(c, 9, 0, 1023, 0, none, rec("c"))}},
		{api.ErrForm, []api.Entry{commit(a, 1, 0), change(c, 9, 8, 3, 0, none, rec("c"))}},
		{api.ErrForm, []api.Entry{commit(a, 1, 0), undo(c, 9, 8, 3, 0, none, rec("c"), 8)}},
		{api.ErrSlot, []api.Entry{commit(a, 1, 0), change(c, 9, 0, 3, 0, rec("x"), rec("c"))}},
		{api.ErrPageFull, []api.Entry{commit(a, 1, 0), change(c, 9, 0, 3, 0, none, full), change(c, 10, 9, 3, 1, none, full)}},
		{api.ErrLast, []api.Entry{commit(a, 1, 0), change(c, 1<<40, 0, 3, 0, none, rec("c"))}},
		{api.ErrLast, []api.Entry{commit(a, 1, 0), change(c, 1<<40-1, 0, 3, 0, none, rec("c"))}},
		{api.ErrLast, []api.Entry{commit(a, 1, 0), end(b, 1, 0), change(c, 1, 0, 2, 0, none, rec("c")), undo(c, 1<<40, 1, 2, 0, rec("c"), none, 0)}},
		{0, []api.Entry{commit(a, 1, 0), change(c, 1<<40-2, 0, 3, 0, none, rec("c"))}},
	} {
		d := plate.New(26)
		opens(t, d, small)
		l, _, e := scroll.Open(d, logAt, 16, api.Mark{First: 1, Gen: 2})
		for _, y := range x.list {
			_, f := l.Append(y)
			e += f
		}
		code(t, "Append, Force", e+l.Force(), 0)
		if x.want == 0 {
			opens(t, d, small, a)
			continue
		}
		acts := d.Acts()
		for n := range 3 {
			refuses(t, d, small, x.want)
			if d.Acts() != acts+2*n+2 {
				t.Errorf("row %d: %d acts", k, d.Acts()-acts)
			}
		}
	}
}

// A log in which there is no room for the undoing.
func TestOpenOfFullLog(t *testing.T) {
	for changes := 1; changes <= 8; changes++ {
		d := plate.New(26)
		opens(t, d, small)
		l, _, _ := scroll.Open(d, logAt, 16, api.Mark{First: 1, Gen: 2})
		is := none
		for n := range changes {
			was := is
			is = long(string(rune('a'+n)), 200)
			if _, e := l.Append(change(a, n+1, n, 0, 0, was, is)); e != 0 {
				t.Fatal(e)
			}
			code(t, "Force", l.Force(), 0)
		}
		// The first change takes a sector, the others two; an undoing of all is as long, in one batch.
		if room := 16 - (2*changes - 1); changes*415-200 > room*232 {
			refuses(t, d, small, api.ErrFull)
			refuses(t, d, small, api.ErrFull)
			continue
		}
		if changes > 5 {
			t.Error(changes)
		}
		has(t, opens(t, d, small))
	}
}
