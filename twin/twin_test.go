package twin_test

import (
	"math"
	"math/rand"
	"reflect"
	"slices"
	"strings"
	"testing"

	"seneschal/api"
	"seneschal/plate"
	"seneschal/slab"
	"seneschal/twin"
)

// P8.1

func TestOpenRefuses(t *testing.T) {
	for k, c := range []struct {
		sectors, from, twins, pages int
		want                        api.Errno
	}{
		{10, 0, 1, 1, 0},
		{10, 8, 1, 1, 0},
		{10, 0, 1, 9, 0},
		{10, 0, 9, 1, 0},
		{10, 3, 2, 5, 0},
		{2, 0, 1, 1, 0},
		{2000, 0, 64, 1024, 0},
		{2000, 912, 64, 1024, 0},
		{16384, 16384 - 1088, 64, 1024, 0},
		{16384, 16382, 1, 1, 0},
		{10, -1, 1, 1, 1},
		{10, math.MinInt, 1, 1, 1},
		{10, -2, 2, 2, 1},
		{10, 9, 1, 1, 1},
		{10, 4, 2, 5, 1},
		{10, 3, 3, 5, 1},
		{10, 3, 2, 6, 1},
		{10, 10, 1, 1, 1},
		{10, math.MaxInt, 1, 1, 1},
		{10, math.MaxInt - 1, 1, 1, 1},
		{10, math.MaxInt - 1087, 64, 1024, 1},
		{10, 0, 0, 1, 1},
		{10, 0, -1, 3, 1},
		{10, 0, math.MinInt, 1, 1},
		{10, 0, math.MaxInt, 1, 1},
		{2000, 0, 65, 1, 1},
		{10, 0, 1, 0, 1},
		{10, 0, 3, -1, 1},
		{10, 0, 1, math.MinInt, 1},
		{10, 0, 1, math.MaxInt, 1},
		{2000, 0, 1, 1025, 1},
		{10, 0, math.MaxInt, math.MaxInt, 1},
		{10, 0, math.MinInt, math.MinInt, 1},
		{10, math.MaxInt, math.MaxInt, math.MaxInt, 1},
		{1, 0, 1, 1, 1},
		{2000, 913, 64, 1024, 1},
		{1087, 0, 64, 1024, 1},
	} {
		d := plate.New(c.sectors)
		s, e := twin.Open(d, c.from, c.twins, c.pages)
		if e != c.want || (s != nil) != (e == 0) {
			t.Errorf("row %d: %d, wanted %d", k, e, c.want)
		}
		d.Off()
		want := c.want
		if want == 0 {
			want = 10
		}
		if s, e := twin.Open(d, c.from, c.twins, c.pages); s != nil || e != want {
			t.Errorf("row %d, without power: %d, wanted %d", k, e, want)
		}
		if s, e := twin.Open(nil, c.from, c.twins, c.pages); s != nil || e != 2 {
			t.Errorf("row %d, without a plate: %d", k, e)
		}
		if d.Acts() != 0 || d.Waits() != 0 {
			t.Errorf("row %d: %d acts", k, d.Acts())
		}
	}
}

func TestOpenOfNew(t *testing.T) {
	s := small()
	s.d.Arm(1)
	store := s.good(t)
	for n := range 5 {
		has(t, store, n, api.Page{})
	}
	if s.d.Down() || s.d.Acts() != 0 {
		t.Error("an act")
	}
	s.d.Off()
	s.d.Off()
	s.d.On(nil)
	write(t, s.good(t), []api.Leaf{{N: 4, Page: page(1, "a")}}, 0)
}

// What homes may have.
func TestHomes(t *testing.T) {
	full := sector(2, page(300, "a", "b"))
	for k, c := range []struct {
		b    string
		want api.Errno
	}{
		{zeros, 0},
		{full, 0},
		{sector(2, api.Page{}), 0},
		{sector(2, page(1<<40)), 0},
		{sector(2, page(1, strings.Repeat("\x00", 200))), 0},
		{sector(1, page(300, "a", "b")), 4},
		{sector(3, page(300, "a", "b")), 4},
		{sector(0, api.Page{}), 4},
		{full[:240] + tail(2+1<<8), 4},
		{full[:240] + tail(2+1<<16), 4},
		{full[:240] + tail(2+1<<24), 4},
		{full[:240] + strings.Repeat("\x00", 16), 4},
		{full[:240] + strings.ToLower(tail(2)), 4},
		{full[:255] + "\x01", 4},
		{full[:255] + " ", 4},
		{strings.Repeat("\x00", 255) + "\x01", 4},
		{"\x01" + strings.Repeat("\x00", 255), 4},
		{strings.Repeat(" ", 256), 4},
		{strings.Repeat("\xff", 256), 4},
		{strings.Repeat("\x00", 239) + "\x01" + tail(2), 4},
		{"\x00\x00\x01\x00\x00\x00\x00\x01" + full[8:], 4}, // an Lsn above MaxLsn
		{full[16:] + full[:16], 4},
		{tail(2) + full[:240], 4},
	} {
		s := small()
		s.put(t, map[int]string{s.home(2): c.b})
		if _, e := s.open(t); e != c.want {
			t.Errorf("row %d: %d, wanted %d", k, e, c.want)
		}
		s = small() // its write waits
		s.d.Write(s.home(2), c.b)
		if _, e := s.open(t); e != c.want || s.d.Waits() != 1 {
			t.Errorf("row %d, which waits: %d, wanted %d", k, e, c.want)
		}
		s = small() // nobody asks what twins or others have, while no home is torn
		s.put(t, map[int]string{s.twin(0): c.b, s.twin(2): torn, 0: c.b, 1: torn, 10: torn, 11: c.b})
		s.good(t)
	}
}

// Each bit of a home counts.
func TestEachBit(t *testing.T) {
	s := small()
	p := page(77, "abc", "", strings.Repeat("x", 200))
	full := sector(3, p)
	for bit := range 256 * 8 {
		b := []byte(full)
		b[bit/8] ^= 1 << (bit % 8)
		s.d.Write(s.home(3), string(b))
		s.d.Sync()
		store, e := s.open(t)
		if bit/8 >= 240 && e != 4 {
			t.Errorf("bit %d: nothing is noticed", bit)
		}
		if q, e2 := store.Read(3); e == 0 && (e2 != 0 || same(p, q)) {
			t.Errorf("bit %d: the same page", bit)
		}
		s.put(t, map[int]string{s.home(3): torn, s.twin(1): string(b)})
		if _, e2 := s.open(t); e2 != e { // what is no home is no copy
			t.Errorf("bit %d: %d as a copy, %d as a home", bit, e2, e)
		}
	}
}

// Which copy is written home.
func TestCopies(t *testing.T) {
	low, high, other := sector(2, page(5, "low")), sector(2, page(6, "high")), sector(2, page(6, "other"))
	foreign := sector(3, page(9, "foreign"))
	for k, c := range []struct {
		twins [3]string
		want  string
	}{
		{[3]string{low, zeros, zeros}, low},
		{[3]string{zeros, low, zeros}, low},
		{[3]string{zeros, zeros, low}, low},
		{[3]string{low, high, zeros}, high},
		{[3]string{high, low, zeros}, high},
		{[3]string{low, zeros, high}, high},
		{[3]string{high, other, low}, high},
		{[3]string{other, low, high}, other},
		{[3]string{low, other, high}, other},
		{[3]string{low, high, other}, high},
		{[3]string{foreign, low, torn}, low},
		{[3]string{torn, foreign, low}, low},
		{[3]string{low, torn, foreign}, low},
		{[3]string{torn, high, low}, high},
		{[3]string{sector(2, page(1<<40)), high, low}, sector(2, page(1<<40))},
		{[3]string{low, high, sector(2, page(1<<40))}, sector(2, page(1<<40))},
		{[3]string{torn, sector(2, api.Page{}), torn}, sector(2, api.Page{})},
		{[3]string{torn, sector(2, api.Page{}), sector(2, page(0, "a"))}, sector(2, api.Page{})},
		{[3]string{sector(2, page(0, "a")), sector(2, api.Page{}), zeros}, sector(2, page(0, "a"))},
		{[3]string{high[:255] + "\x01", low, zeros}, low},
		{[3]string{low, high[:240] + zeros[:16], high[:240] + tail(2+1<<24)}, low},
		{[3]string{"\x00\x00\x02" + high[3:], low, torn}, low}, // an Lsn above MaxLsn
		{[3]string{high[:239] + "\x01" + tail(2), low, torn}, low},
		{[3]string{zeros, zeros, zeros}, torn},
		{[3]string{foreign, torn, zeros}, torn},
		{[3]string{torn, torn, torn}, torn},
		{[3]string{foreign, foreign, foreign}, torn},
		{[3]string{high[:255] + " ", tail(2) + high[:240], strings.Repeat("\xff", 256)}, torn},
	} {
		s := small()
		s.put(t, map[int]string{
			s.twin(0): c.twins[0], s.twin(1): c.twins[1], s.twin(2): c.twins[2], s.home(2): torn,
			1: sector(2, page(90, "ahead of the twins")), 10: sector(2, page(91, "behind the homes")),
		})
		_, e := s.open(t)
		if b := dump(s.d)[s.home(2)]; b != c.want || (e == 0) != (c.want != torn) {
			t.Errorf("row %d: %.20q, %d, wanted %.20q", k, b, e, c.want)
		}
	}
}

// A home is no copy; a home that isn't torn is not written, whatever the twins have.
func TestNoCopies(t *testing.T) {
	s := small()
	s.put(t, map[int]string{s.home(0): torn, s.home(1): sector(0, page(5, "a"))})
	if _, e := s.open(t); e != 4 || dump(s.d)[s.home(0)] != torn {
		t.Error(e)
	}
	s = small()
	s.put(t, map[int]string{
		s.twin(0): sector(1, page(9, "b")), s.twin(1): sector(4, page(9, "b")), s.twin(2): sector(2, page(9, "b")),
		s.home(1): sector(1, page(5, "a")), s.home(2): torn,
	})
	acts := s.d.Acts()
	store := s.good(t)
	has(t, store, 1, page(5, "a"))
	has(t, store, 4, api.Page{})
	has(t, store, 2, page(9, "b"))
	if s.d.Acts() != acts+2 {
		t.Error(s.d.Acts())
	}
	s.put(t, map[int]string{s.home(4): strings.Repeat("x", 256)})
	if _, e := s.open(t); e != 4 {
		t.Error(e)
	}
}

// What can be repaired is repaired and synced, ahead of an ErrForm, too; ErrDown is named ahead of it.
func TestRepairsAheadOfErrForm(t *testing.T) {
	for _, bad := range []string{torn, strings.Repeat("x", 256), sector(4, page(1))} {
		for n := range 3 {
			lay := func() (site, int) {
				s := small()
				sectors := map[int]string{s.home(n): bad}
				for i := range 2 {
					k := (n + 1 + i) % 3
					sectors[s.twin(i)], sectors[s.home(k)] = sector(k, page(5, "a")), torn
				}
				s.put(t, sectors)
				return s, s.d.Acts()
			}
			s, acts := lay()
			if _, e := s.open(t); e != 4 || s.d.Acts() != acts+3 || s.d.Waits() != 0 {
				t.Error(e, s.d.Acts()-acts, s.d.Waits())
			}
			for at := 1; at <= 3; at++ {
				s, acts := lay()
				s.d.Arm(at)
				if store, e := twin.Open(s.d, 2, 3, 5); store != nil || e != 10 || s.d.Acts() != acts+at {
					t.Error(e, s.d.Acts()-acts)
				}
			}
		}
	}
}

// The homes are written rising, whatever the order of the copies.
func TestRepairsRise(t *testing.T) {
	for at := 1; at <= 4; at++ {
		s := small()
		sectors := map[int]string{}
		for i, n := range []int{4, 0, 3} {
			sectors[s.twin(i)], sectors[s.home(n)] = sector(n, page(5+i, "a")), torn
		}
		s.put(t, sectors)
		s.d.Arm(at)
		if store, e := twin.Open(s.d, 2, 3, 5); store != nil || e != 10 {
			t.Error(e)
		}
		s.d.On([]int{1})
		for i, n := range []int{0, 3, 4} {
			if (dump(s.d)[s.home(n)] == torn) != (i >= at) {
				t.Errorf("act %d: page %d", at, n)
			}
		}
		s.good(t)
	}
}

// Whatever the plate holds.
func TestSpoiledByChance(t *testing.T) {
	r := rand.New(rand.NewSource(8))
	seen := map[api.Errno]int{}
	for range 6000 {
		s := small()
		sectors := map[int]string{}
		for n := range 12 {
			sectors[n] = spoilt(r, r.Intn(5))
		}
		for n := range 5 {
			if r.Intn(40) > 0 {
				sectors[s.home(n)] = spoilt(r, n)
			}
		}
		s.put(t, sectors)
		_, e := s.open(t)
		seen[e]++
		s.open(t)
	}
	if seen[0] < 500 || seen[4] < 500 {
		t.Error("too few kinds of plates", seen)
	}
}

// spoilt is a sector that may be that of the page n.
func spoilt(r *rand.Rand, n int) string {
	b := []byte(sector(n, page(r.Intn(4), string([]byte{byte(r.Intn(256))}))))
	switch k := r.Intn(60); {
	case k == 0:
		b[r.Intn(256)]++
	case k < 10:
		return torn
	case k < 20:
		return zeros
	}
	return string(b)
}

// P8.2, P8.3

func TestWrite(t *testing.T) {
	s := small()
	store := s.good(t)
	r := rand.New(rand.NewSource(9))
	for k := range 300 {
		var list []api.Leaf
		for _, n := range r.Perm(5)[:r.Intn(4)] {
			list = append(list, api.Leaf{N: n, Page: page(r.Intn(1000), strings.Repeat("r", r.Intn(100)), "s")}) // the Lsns may fall
		}
		acts, before := s.d.Acts(), dump(s.d)
		write(t, store, list, 0)
		if want := 2*len(list) + 2; len(list) > 0 && s.d.Acts() != acts+want || len(list) == 0 && s.d.Acts() != acts || s.d.Waits() != 0 {
			t.Errorf("%d pages: %d acts, %d wait", len(list), s.d.Acts()-acts, s.d.Waits())
		}
		want := s.written(before, list)
		if !slices.Equal(dump(s.d), want) {
			t.Fatal("other sectors")
		}
		s.agree(t, store, want)
		if k%10 == 0 {
			store = s.good(t)
		}
	}
}

func TestBytes(t *testing.T) {
	s := site{plate.New(2000), 5, 2, 1024}
	store := s.good(t)
	p := api.Page{Lsn: 0x0123456789, Slots: []api.Slot{{}, {Used: true, Data: "ab"}}}
	write(t, store, []api.Leaf{{N: 0x3ff, Page: p}, {N: 0}}, 0)
	first := "\x00\x00\x00\x01\x23\x45\x67\x89\x02\xff\x02ab" + strings.Repeat("\x00", 227) + "PAGE\x00\x00\x03\xff" + strings.Repeat("\x00", 8)
	second := strings.Repeat("\x00", 240) + "PAGE" + strings.Repeat("\x00", 12)
	for n, b := range dump(s.d) {
		want := zeros
		switch n {
		case 5, 7 + 1023:
			want = first
		case 6, 7:
			want = second
		}
		if b != want {
			t.Errorf("%d: %q", n, b)
		}
	}
	has(t, s.good(t), 1023, p)
}

func TestGreatest(t *testing.T) {
	s := site{plate.New(1 << 14), 1<<14 - 1088, 64, 1024}
	store := s.good(t)
	all := map[int]api.Page{}
	var list []api.Leaf
	for i := range 64 {
		x := api.Leaf{N: i * 65 % 1024, Page: page(1<<40-i, strings.Repeat(string([]byte{byte(i)}), 200), "0123456789012345678901234567")}
		all[x.N] = x.Page
		list = append(list, x)
	}
	for i := range 32 {
		list[7].Page.Slots = append(list[7].Page.Slots[:i:i], api.Slot{Used: true})
	}
	all[list[7].N] = list[7].Page
	write(t, store, list, 0)
	if s.d.Acts() != 130 {
		t.Error(s.d.Acts())
	}
	write(t, store, append(slices.Clone(list), api.Leaf{N: 1}), 1)
	sectors := map[int]string{}
	for n := range all {
		sectors[s.home(n)] = torn
	}
	s.put(t, sectors)
	acts := s.d.Acts()
	store = s.good(t)
	if s.d.Acts() != acts+65 {
		t.Error(s.d.Acts() - acts)
	}
	for n := range 1024 {
		has(t, store, n, all[n])
	}
	for n := range 1024 { // all homes are torn, each twin has one
		sectors[s.home(n)] = torn
	}
	s.put(t, sectors)
	if _, e := s.open(t); e != 4 {
		t.Error(e)
	}
}

// badPages are no good images.
func badPages() []api.Page {
	many := page(1)
	for range 33 {
		many.Slots = append(many.Slots, api.Slot{Used: true})
	}
	return []api.Page{
		{Lsn: -1},
		{Lsn: math.MinInt},
		{Lsn: 1<<40 + 1},
		{Lsn: math.MaxInt},
		{Slots: []api.Slot{{}}},
		{Slots: []api.Slot{{Used: true}, {}}},
		{Slots: []api.Slot{{Data: "a"}, {Used: true}}},
		page(1, strings.Repeat("a", 201)),
		page(1, strings.Repeat("a", 200), strings.Repeat("a", 30)),
		many,
	}
}

func TestWriteRefuses(t *testing.T) {
	s := small()
	store := s.good(t)
	first := []api.Leaf{{N: 0, Page: page(5, "a")}, {N: 4, Page: page(6, "b")}, {N: 2, Page: page(7, "c")}}
	write(t, store, first, 0)
	fine := api.Leaf{N: 3, Page: page(8, "d")}
	lists := [][]api.Leaf{
		{fine, {N: 1}, {N: 2}, {N: 4}},
		{{N: 1}, {N: 1}},
		{fine, {N: 1}, fine},
		{fine, fine, {N: 1}},
		{{N: 1}, fine, fine},
		{fine, {N: 3}},
		{fine, fine, fine, fine},
	}
	for _, n := range []int{-1, 5, 6, -3, math.MinInt, math.MaxInt, 1 << 32, 1<<32 + 1, -1 << 32} {
		lists = append(lists, []api.Leaf{{N: n}}, []api.Leaf{fine, {N: n, Page: page(9, "e")}}, []api.Leaf{{N: n}, fine})
	}
	for _, p := range badPages() {
		lists = append(lists, []api.Leaf{{N: 1, Page: p}}, []api.Leaf{fine, {N: 1, Page: p}}, []api.Leaf{{N: 1, Page: p}, fine})
	}
	before, acts := dump(s.d), s.d.Acts()
	s.d.Arm(1)
	for k, list := range lists {
		if e := store.Write(list); e != 1 {
			t.Errorf("row %d: %d", k, e)
		}
	}
	write(t, store, nil, 0)
	write(t, store, []api.Leaf{}, 0)
	if s.d.Acts() != acts || s.d.Waits() != 0 || !slices.Equal(dump(s.d), before) {
		t.Error("something is done")
	}
	s.agree(t, store, before)
	s.d.Arm(0)
	write(t, store, []api.Leaf{{N: 1, Page: page(1, strings.Repeat("a", 200), strings.Repeat("a", 29))}, {N: 2}, fine}, 0) // the greatest
	s.d.Off()
	for k, list := range append(lists, nil) { // ErrDown is ahead of ErrArg
		if e := store.Write(list); e != 10 {
			t.Errorf("row %d, without power: %d", k, e)
		}
	}
	var none *twin.Store
	for k, list := range append(lists, nil, []api.Leaf{fine}) {
		if e := none.Write(list); e != 2 {
			t.Errorf("row %d, without a store: %d", k, e)
		}
	}
}

func TestRead(t *testing.T) {
	s := small()
	store := s.good(t)
	write(t, store, []api.Leaf{{N: 4, Page: page(6, "b")}, {N: 0, Page: page(5, "a")}}, 0)
	acts := s.d.Acts()
	s.d.Arm(1)
	bad := []int{-1, 5, 6, -5, math.MinInt, math.MaxInt, 1 << 32, -1 << 32}
	for range 2 {
		has(t, store, 0, page(5, "a"))
		has(t, store, 1, api.Page{})
		has(t, store, 4, page(6, "b"))
		for _, n := range bad {
			hasNot(t, store, n, 1)
		}
	}
	if s.d.Acts() != acts {
		t.Error("an act")
	}
	s.d.Off()
	var none *twin.Store
	for _, n := range append(bad, 0, 1, 4) {
		hasNot(t, store, n, 10)
		hasNot(t, none, n, 2)
	}
	s.d.On(nil)
	for _, n := range append(bad, 0, 1, 4) {
		hasNot(t, store, n, 10)
	}
}

// Without power, once is for ever.
func TestDown(t *testing.T) {
	list := []api.Leaf{{N: 1, Page: page(8, "x")}, {N: 3, Page: page(9, "y")}}
	gone := []func(d *plate.Plate, s *twin.Store){
		func(d *plate.Plate, s *twin.Store) { d.Off() },
		func(d *plate.Plate, s *twin.Store) { d.Off(); d.On(nil) },
		func(d *plate.Plate, s *twin.Store) { d.Arm(1); d.Sync() },
		func(d *plate.Plate, s *twin.Store) { d.Arm(1); d.Write(0, zeros); d.On([]int{2}) },
	}
	for at := 1; at <= 6; at++ {
		gone = append(gone,
			func(d *plate.Plate, s *twin.Store) { d.Arm(at); write(t, s, list, 10) },
			func(d *plate.Plate, s *twin.Store) { d.Arm(at); write(t, s, list, 10); d.On([]int{1}) })
	}
	for k, f := range gone {
		s := small()
		store := s.good(t)
		write(t, store, []api.Leaf{{N: 1, Page: page(5, "a")}}, 0)
		f(s.d, store)
		acts, waits := s.d.Acts(), s.d.Waits()
		for range 2 {
			for n := range 5 {
				hasNot(t, store, n, 10)
			}
			write(t, store, list, 10)
			write(t, store, nil, 10)
		}
		if s.d.Acts() != acts || s.d.Waits() != waits {
			t.Errorf("row %d: acts without power", k)
		}
		s.d.On(nil)
		write(t, s.good(t), list, 0) // another store has it again
		write(t, store, list, 10)
		hasNot(t, store, 1, 10)
	}
}

// The store of a plate that has gone ahead of its opening has power.
func TestOpenedLater(t *testing.T) {
	s := small()
	for k := range 4 {
		store := s.good(t)
		write(t, store, []api.Leaf{{N: 1, Page: page(5+k, "a")}}, 0)
		has(t, store, 1, page(5+k, "a"))
		s.d.Off()
		s.d.On(nil)
	}
}

// Others use other sectors of the plate; a Sync is one of all of it.
func TestOthers(t *testing.T) {
	s := small()
	store := s.good(t)
	for n, b := range map[int]string{0: "a", 1: "b", 10: "c", 11: "d"} {
		s.d.Write(n, strings.Repeat(b, 256))
	}
	s.good(t)
	if s.d.Waits() != 4 {
		t.Error(s.d.Waits())
	}
	before := dump(s.d)
	list := []api.Leaf{{N: 0, Page: page(1)}, {N: 4, Page: page(2)}, {N: 2, Page: page(3)}}
	write(t, store, list, 0)
	s.d.Off()
	s.d.On([]int{2})
	if !slices.Equal(dump(s.d), s.written(before, list)) {
		t.Error("other sectors")
	}
}

// Two stores on one plate, one behind the other.
func TestTwoStores(t *testing.T) {
	d := plate.New(16)
	a, b := site{d, 0, 2, 4}, site{d, 6, 3, 7}
	one, other := a.good(t), b.good(t)
	write(t, one, []api.Leaf{{N: 3, Page: page(5, "a")}, {N: 2, Page: page(6, "b")}}, 0)
	write(t, other, []api.Leaf{{N: 0, Page: page(7, "c")}, {N: 6, Page: page(8, "d")}}, 0)
	has(t, one, 3, page(5, "a"))
	has(t, one, 0, api.Page{})
	has(t, other, 0, page(7, "c"))
	has(t, other, 3, api.Page{})
	a.good(t)
	b.good(t)
}

// What is handed in is not changed and not kept; what is answered is new memory.
func TestNewMemory(t *testing.T) {
	s := small()
	store := s.good(t)
	list := []api.Leaf{{N: 3, Page: page(5, "a", "b")}, {N: 1, Page: page(6, "c")}, {N: 2, Page: page(7, "spare")}}
	list[0].Page.Slots = append(make([]api.Slot, 0, 40), list[0].Page.Slots...)
	was := copyList(list)
	write(t, store, list[:2], 0)
	if !reflect.DeepEqual(list, was) || !slices.Equal(list[0].Page.Slots[:40][2:], make([]api.Slot, 38)) {
		t.Error("the list is changed")
	}
	list[0].N, list[0].Page.Lsn, list[0].Page.Slots[0].Data = 4, 9, "x"
	list[1].Page.Slots[0] = api.Slot{}
	for range 2 {
		p, _ := store.Read(3)
		q, _ := store.Read(3)
		if !same(p, was[0].Page) || !same(q, p) {
			t.Error(p, q)
		}
		p.Slots[0].Data = "y"
		p.Slots = append(p.Slots, api.Slot{Used: true, Data: "z"})
		if !same(q, was[0].Page) {
			t.Error(q)
		}
	}
	has(t, store, 3, was[0].Page)
	has(t, store, 1, was[1].Page)
	s.put(t, map[int]string{s.home(3): torn, s.home(1): torn})
	store = s.good(t)
	p, _ := store.Read(3)
	p.Slots[1] = api.Slot{}
	has(t, store, 3, was[0].Page)
	if b, _ := s.d.Read(s.home(3)); b != sector(3, was[0].Page) {
		t.Error("the plate is changed")
	}
	if slab.Good(p) {
		t.Error("it was another one")
	}
}
