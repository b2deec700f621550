package vat_test

import (
	"math/rand"
	"slices"
	"testing"

	"seneschal/api"
	"seneschal/plate"
	"seneschal/vat"
)

// P1: whatever a plate holds, Open ends, and what it opens is a store.

// spoil does something to a sector.
func spoil(t *testing.T, r *rand.Rand, d *plate.Plate) {
	t.Helper()
	n := r.Intn(d.Sectors())
	s := []byte(raw(d, n))
	switch r.Intn(6) {
	case 0:
		s = nil
	case 1:
		s = []byte(raw(d, r.Intn(d.Sectors())))
	case 2:
		s = []byte(topBytes(uint64(r.Intn(20)), r.Intn(60), 1+r.Intn(60), 1+r.Intn(6)))
		n %= 2
	default:
		for range 1 + r.Intn(3) {
			if len(s) > 0 {
				s[r.Intn(256)/(1+r.Intn(8))] ^= 1 << r.Intn(8)
			}
		}
	}
	puts(t, d, map[int]string{n: string(s)})
}

func TestSpoiledPlates(t *testing.T) {
	r := rand.New(rand.NewSource(8))
	codes := map[api.Errno]int{}
	for range 60 {
		w := newWorld(t, r)
		for range r.Intn(60) {
			if !w.step() {
				w.recover()
			}
		}
		w.d.Off()
		w.d.On(w.fates())
		base := images(w.d)
		for range 25 {
			d := plate.New(len(base) + 3)
			for n, s := range base {
				if s != zeros {
					puts(t, d, map[int]string{n: s})
				}
			}
			for range 1 + r.Intn(4) {
				spoil(t, r, d)
			}
			conf := w.conf
			if r.Intn(5) == 0 {
				conf.Pages, conf.Log = max(1, conf.Pages+r.Intn(3)-1), conf.Log+r.Intn(3)-1
			}
			v, done, e := vat.Open(d, conf)
			codes[e]++
			if e != 0 {
				if v != nil || len(done) > 0 {
					t.Fatal(v, done, e)
				}
				if !slices.Contains([]api.Errno{api.ErrArg, api.ErrForm, api.ErrFull, api.ErrSlot, api.ErrPageFull, api.ErrLast}, e) {
					t.Fatal(e)
				}
				continue
			}
			if v.Room() != conf.Log || v.Due() != 0 {
				t.Fatal(v.Room(), v.Due())
			}
			x := txn(8, 1<<30, 1)
			leaves, _ := v.Leaves()
			lsn := leaves[0].Page.Lsn + 1
			was := none
			if len(leaves[0].Page.Slots) > 0 {
				was = leaves[0].Page.Slots[0]
			}
			if lsn > 1<<39 {
				continue
			}
			add(t, v, 0, change(x, lsn, 0, 0, 0, was, none), commit(x, lsn+1, lsn))
			check(t, v)
			if raw(d, 0)[:4] != "TOP\x00" || raw(d, 1)[:4] != "TOP\x00" {
				t.Fatal("the tops")
			}
			// What the spoiling has cut off of the log may come back behind the new end: so this may be refused.
			_, _, e = vat.Open(d, conf)
			codes[e]++
		}
	}
	if codes[0] < 300 || codes[api.ErrForm] < 100 || codes[api.ErrSlot] < 30 {
		t.Error("too few kinds of plates", codes)
	}
}
