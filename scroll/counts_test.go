package scroll_test

import (
	"math/rand"
	"slices"
	"strings"
	"testing"

	"seneschal/api"
	"seneschal/plate"
)

// Words: what counts.

// three are the batches of the tests below: of one sector, of three, of two; from 37 on.
var threeMark = api.Mark{At: 37, First: 1, Gen: 3}

func three() ([][]api.Entry, []rec) {
	lists := [][]api.Entry{filled(1, 100), filled(4, 600), filled(10, 464)}
	list := recs(37, 2, bytesOf(lists[0]...))
	list = append(list, recs(38, 2, bytesOf(lists[1]...))...)
	return lists, append(list, recs(41, 3, bytesOf(lists[2]...))...)
}

func TestWhatCounts(t *testing.T) {
	lists, _ := three()
	for k, c := range []struct {
		change func(list []rec)
		m      api.Mark
		want   int // how many batches count
	}{
		{func(list []rec) {}, threeMark, 3},
		{func(list []rec) {}, api.Mark{At: 37, First: 9, Gen: 1 << 30}, 3},
		{func(list []rec) {}, api.Mark{At: 37, First: 1 << 40, Gen: 2}, 2}, // the third one's is above
		{func(list []rec) {}, api.Mark{At: 37, First: 1, Gen: 1}, 0},
		{func(list []rec) {}, api.Mark{At: 36, First: 1, Gen: 3}, 0},
		{func(list []rec) {}, api.Mark{At: 57, First: 1, Gen: 3}, 0}, // a round later
		{func(list []rec) {}, api.Mark{At: 17, First: 1, Gen: 3}, 0},
		{func(list []rec) { list[0].gen = 1 }, threeMark, 3},
		{func(list []rec) { list[0].gen = 0 }, threeMark, 3}, // at most Gen, and below none
		{func(list []rec) { list[0].gen = 3 }, threeMark, 1}, // the next one's is below
		{func(list []rec) { list[0].gen = 4 }, threeMark, 0},
		{func(list []rec) { list[0].gen = 1 << 31 }, threeMark, 0},
		{func(list []rec) { list[0].gen = 1<<32 - 1 }, threeMark, 0},
		{func(list []rec) { list[4].gen, list[5].gen = 2, 2 }, threeMark, 3},
		{func(list []rec) { list[4].gen, list[5].gen = 1, 1 }, threeMark, 2},
		{func(list []rec) { list[4].gen, list[5].gen = 4, 4 }, threeMark, 2},
		{func(list []rec) { list[4].gen, list[5].gen = 4, 4 }, api.Mark{At: 37, First: 1, Gen: 4}, 3},
		{func(list []rec) { list[1].gen = 3 }, threeMark, 1},
		{func(list []rec) { list[2].gen = 3 }, threeMark, 1},
		{func(list []rec) { list[3].gen = 3 }, threeMark, 1},
		{func(list []rec) { list[3].gen = 1 }, threeMark, 1},
		{func(list []rec) { list[5].gen = 2 }, threeMark, 2},
		{func(list []rec) { list[0].n++ }, threeMark, 0},
		{func(list []rec) { list[0].n += 20 }, threeMark, 0},
		{func(list []rec) { list[0].n += 1 << 63 }, threeMark, 0},
		{func(list []rec) { list[1].n -= 20 }, threeMark, 1},
		{func(list []rec) { list[2].n += 20 }, threeMark, 1},
		{func(list []rec) { list[3].n -= 20 }, threeMark, 1},
		{func(list []rec) { list[3].n = 1<<64 - 1 }, threeMark, 1},
		{func(list []rec) { list[0].first-- }, threeMark, 0},
		{func(list []rec) { list[0].first += 20 }, threeMark, 0},
		{func(list []rec) { list[0].first += 1 << 63 }, threeMark, 0},
		{func(list []rec) { list[1].first, list[2].first, list[3].first = 37, 37, 37 }, threeMark, 1},
		{func(list []rec) { list[1].first, list[2].first, list[3].first = 39, 39, 39 }, threeMark, 1},
		{func(list []rec) { list[1].first, list[2].first, list[3].first = 18, 18, 18 }, threeMark, 1},
		{func(list []rec) { list[2].first = 39 }, threeMark, 1},
		{func(list []rec) { list[3].first = 37 }, threeMark, 1},
		{func(list []rec) { list[0].count = 0 }, threeMark, 0},
		{func(list []rec) { list[0].count = 2 }, threeMark, 0},
		{func(list []rec) { list[1].count = 2 }, threeMark, 1},
		{func(list []rec) { list[1].count, list[2].count = 2, 2 }, threeMark, 1}, // its entries are cut off
		{func(list []rec) { list[1].count, list[2].count, list[3].count = 4, 4, 4 }, threeMark, 1},
		{func(list []rec) { list[2].count = 2 }, threeMark, 1},
		{func(list []rec) { list[3].count = 4 }, threeMark, 1},
		{func(list []rec) { list[4].count, list[5].count = 21, 21 }, threeMark, 2},
		{func(list []rec) { list[4].count, list[5].count = 1<<16-1, 1<<16-1 }, threeMark, 2},
		{func(list []rec) { list[1].used = 231 }, threeMark, 1},
		{func(list []rec) { part(list[1:4], 232, 232, 136) }, threeMark, 3}, // as it was
		{func(list []rec) { part(list[1:4], 231, 232, 137) }, threeMark, 1},
		{func(list []rec) { part(list[1:4], 232, 231, 137) }, threeMark, 1},
		{func(list []rec) { part(list[1:4], 200, 200, 200) }, threeMark, 1}, // just an entry each
		{func(list []rec) { part(list[1:4], 136, 232, 232) }, threeMark, 1},
		{func(list []rec) { part(list[1:4], 232, 136, 232) }, threeMark, 1},
		{func(list []rec) { part(list[1:4], 232, 232, 0) }, threeMark, 1},
		{func(list []rec) { list[2].used = 0 }, threeMark, 1},
		{func(list []rec) { list[1].used = 233 }, threeMark, 1},
		{func(list []rec) { list[5].used = 233 }, threeMark, 2},
		{func(list []rec) { list[5].used = 1<<16 - 1 }, threeMark, 2},
		{func(list []rec) { list[0].used, list[0].load = 0, "" }, threeMark, 0},
		{func(list []rec) { list[0].used-- }, threeMark, 0},
		{func(list []rec) { list[0].load += "\x00\x01" }, threeMark, 0},
		{func(list []rec) { list[0].load += strings.Repeat("\x00", 131) + "\x01" }, threeMark, 0},
		{func(list []rec) { list[0].load += strings.Repeat("\x00", 131) + " " }, threeMark, 0},
		{func(list []rec) { list[3].load += "\x00\x01" }, threeMark, 1},
		{func(list []rec) { list[0].load = "\x0a" + list[0].load[1:] }, threeMark, 0}, // no kind
		{func(list []rec) { list[0].used++ }, threeMark, 0},                           // 00 is no entry
		{func(list []rec) { list[3].used++ }, threeMark, 1},
	} {
		s := site{plate.New(30), 2, 20}
		_, list := three()
		places := make([]int, len(list))
		for i, r := range list {
			places[i] = int(r.n)
		}
		c.change(list)
		for i, r := range list {
			s.put(t, places[i], r.bytes())
		}
		want := slices.Concat(lists[:c.want]...)
		if got := s.counts(c.m); !slices.Equal(slices.Concat(got...), want) {
			t.Errorf("row %d: the plain reading has %d batches, wanted %d", k, len(got), c.want)
		}
		s.open(t, c.m, want)
	}
}

// part parts the bytes of a batch anew.
func part(list []rec, lengths ...int) {
	body := ""
	for _, r := range list {
		body += r.load
	}
	for i, length := range lengths {
		list[i].used, list[i].load, body = uint16(length), body[:length], body[length:]
	}
}

// One sector that can't be read, or is lost, or is another one's.
func TestOneSectorIsGone(t *testing.T) {
	for gone := range 6 {
		lists, list := three()
		want := lists[:[]int{0, 1, 1, 1, 2, 2}[gone]]
		for how := range 4 {
			s := site{plate.New(30), 9, 20}
			s.putAll(t, list)
			switch how {
			case 0:
				s.tear(t, 37+gone)
			case 1:
				s.put(t, 37+gone, strings.Repeat("\x00", 256))
			case 2:
				s.put(t, 37+gone, strings.Repeat("\xff", 256))
			case 3:
				s.put(t, 37+gone, list[(gone+1)%6].bytes())
			}
			s.open(t, threeMark, slices.Concat(want...))
		}
	}
}

// Each bit of each sector counts: but for those of a load that are read as other entries then, and of a generation.
func TestEachBit(t *testing.T) {
	lists, list := three()
	all := slices.Concat(lists...)
	s := site{plate.New(22), 2, 20}
	s.putAll(t, list)
	for i, r := range list {
		for bit := range 256 * 8 {
			b := []byte(r.bytes())
			b[bit/8] ^= 1 << (bit % 8)
			s.put(t, 37+i, string(b))
			s.d.Sync()
			got := slices.Concat(s.counts(threeMark)...)
			s.open(t, threeMark, got)
			if slices.Equal(got, all) && (i != 0 || bit/8 < 8 || bit/8 >= 12) {
				t.Errorf("sector %d, bit %d: nothing is noticed", i, bit)
			}
		}
		s.put(t, 37+i, r.bytes())
		s.d.Sync()
	}
	s.open(t, threeMark, all)
}

// As many sectors as can be.
func TestGreatestBatchesCount(t *testing.T) {
	for _, c := range []struct{ count, sectors, want int }{
		{16, 16, 1}, {16, 15, 1}, {17, 16, 1}, {1024, 1024, 1}, {4096, 1023, 1}, {4096, 1024, 1}, {4096, 1025, 0}, {4096, 2000, 0}, {4096, 4096, 0}, {1500, 1100, 0},
	} {
		s := site{plate.New(4200), 50, c.count}
		list := filled(3, c.sectors*232-10)
		s.putAll(t, recs(7, 1, bytesOf(list...)))
		m := api.Mark{At: 7, First: 1, Gen: 1}
		if c.want == 0 {
			list = nil
		}
		l := s.open(t, m, list)
		if want := c.count - c.want*c.sectors; l.Room() != want {
			t.Errorf("%v: Room %d, wanted %d", c, l.Room(), want)
		}
	}
	s := site{plate.New(4200), 50, 4096} // four of them
	var all []api.Entry
	for k := range 4 {
		list := filled(k, 1024*232)
		s.putAll(t, recs(1<<40+1024*k, 1, bytesOf(list...)))
		all = append(all, list...)
	}
	l := s.open(t, api.Mark{At: 1 << 40, First: 1 << 40, Gen: 1}, all)
	if l.Room() != 0 {
		t.Error(l.Room())
	}
}

// A log that is full ends where it begins, a round later.
func TestFullLogEnds(t *testing.T) {
	s := site{plate.New(16), 0, 16}
	var all []api.Entry
	for k := range 16 {
		x := sized(k, 40)
		s.putAll(t, recs(16+k, 1, bytesOf(x)))
		all = append(all, x)
	}
	s.open(t, api.Mark{At: 16, First: 1, Gen: 1}, all)
	s.open(t, api.Mark{At: 20, First: 1, Gen: 1}, all[4:])
	s.putAll(t, recs(32, 1, bytesOf(sized(50, 40))))
	s.open(t, api.Mark{At: 16, First: 1, Gen: 1}, nil)
	s.open(t, api.Mark{At: 17, First: 1, Gen: 1}, append(slices.Clone(all[1:]), sized(50, 40)))
}

// Whatever the plate holds.
func TestSpoiledByChance(t *testing.T) {
	r := rand.New(rand.NewSource(3))
	seen := map[int]int{}
	for trial := range 3000 {
		s := site{plate.New(20), r.Intn(4), 16}
		at, gen := r.Intn(40), 1+r.Intn(2)
		m := api.Mark{At: at, First: 1, Gen: 3}
		for at < m.At+16 {
			list := recs(at, gen, bytesOf(filled(trial, 20+r.Intn(700))...))
			gen += r.Intn(5) / 4
			for _, x := range list[:min(len(list), m.At+16-at)] {
				spoil(r, &x)
				s.put(t, at, x.bytes())
				at++
			}
		}
		s.d.Off()
		s.d.On([]int{1, 1, 1, 1, 1, 1, 1, 1, 1, 1, 1, 1, 1, 1 + r.Intn(2), 1, 1, r.Intn(3)})
		want := s.counts(m)
		s.open(t, m, slices.Concat(want...))
		seen[len(want)]++
	}
	if len(seen) < 8 {
		t.Error("too few kinds of plates", seen)
	}
	s := site{plate.New(16), 0, 16}
	for range 2000 { // bytes by chance, behind a head that can be
		for n := range 16 {
			load := make([]byte, 232)
			for i := range load {
				load[i] = byte(r.Intn(12) * r.Intn(2) * 2)
			}
			s.put(t, n, rec{uint64(n), 1, uint64(n), uint16(1 + r.Intn(8)/7), uint16(6 * r.Intn(5)), string(load)}.bytes())
		}
		s.d.Sync()
		m := api.Mark{First: 1, Gen: 1}
		s.open(t, m, slices.Concat(s.counts(m)...))
	}
}

func spoil(r *rand.Rand, x *rec) {
	switch r.Intn(80) {
	case 0:
		x.n += uint64(16 * (r.Intn(3) - 1))
	case 1:
		x.gen = uint32(r.Intn(5))
	case 2:
		x.first += uint64(r.Intn(3) - 1)
	case 3:
		x.count += uint16(r.Intn(3) - 1)
	case 4:
		x.used += uint16(r.Intn(5) - 2)
	case 5:
		b := []byte(x.load)
		b[r.Intn(len(b))] = byte(r.Intn(256))
		x.load = string(b)
	case 6:
		x.load += "\x00x"
	}
}
