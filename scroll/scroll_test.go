package scroll_test

import (
	"math"
	"math/rand"
	"slices"
	"strings"
	"testing"

	"seneschal/api"
	"seneschal/plate"
	"seneschal/scroll"
)

// badEntries are none.
func badEntries() []api.Entry {
	x := sized(1, 50)
	list := []api.Entry{{}, x, x, x, x, x}
	list[1].Kind = 9
	list[2].Lsn = 0
	list[3].Is.Data = strings.Repeat("x", 201)
	list[4].Next = 1
	list[5].Txn.Client = 9
	return list
}

// raw is a sector of the plate as it is.
func raw(t *testing.T, d *plate.Plate, n int) string {
	t.Helper()
	s, e := d.Read(n)
	if e != 0 {
		t.Fatal(n, e)
	}
	return s
}

// P7.1

func TestOpenErrors(t *testing.T) {
	good := api.Mark{At: 0, First: 1, Gen: 1}
	for k, c := range []struct {
		sectors, from, count int
		m                    api.Mark
		want                 api.Errno
	}{
		{24, 0, 16, good, 0},
		{24, 8, 16, good, 0},
		{24, 0, 24, good, 0},
		{16, 0, 16, good, 0},
		{5000, 0, 4096, good, 0},
		{5000, 904, 4096, good, 0},
		{24, 3, 17, api.Mark{At: 1 << 40, First: 1 << 40, Gen: 1 << 30}, 0},
		{24, -1, 16, good, 1},
		{24, math.MinInt, 16, good, 1},
		{24, 9, 16, good, 1},
		{24, 1, 24, good, 1},
		{24, math.MaxInt, 16, good, 1},
		{24, math.MaxInt - 15, 16, good, 1},
		{24, 0, 15, good, 1},
		{24, 0, 0, good, 1},
		{24, 20, -16, good, 1},
		{24, 0, 25, good, 1},
		{24, 0, math.MinInt, good, 1},
		{24, 0, math.MaxInt, good, 1},
		{5000, 0, 4097, good, 1},
		{15, 0, 16, good, 1},
		{24, 0, 16, api.Mark{At: -1, First: 1, Gen: 1}, 1},
		{24, 0, 16, api.Mark{At: 1<<40 + 1, First: 1, Gen: 1}, 1},
		{24, 0, 16, api.Mark{At: math.MinInt, First: 1, Gen: 1}, 1},
		{24, 0, 16, api.Mark{At: math.MaxInt, First: 1, Gen: 1}, 1},
		{24, 0, 16, api.Mark{At: 0, First: 0, Gen: 1}, 1},
		{24, 0, 16, api.Mark{At: 0, First: 1<<40 + 1, Gen: 1}, 1},
		{24, 0, 16, api.Mark{At: 0, First: math.MinInt, Gen: 1}, 1},
		{24, 0, 16, api.Mark{At: 0, First: math.MaxInt, Gen: 1}, 1},
		{24, 0, 16, api.Mark{At: 0, First: 1, Gen: 0}, 1},
		{24, 0, 16, api.Mark{At: 0, First: 1, Gen: 1<<30 + 1}, 1},
		{24, 0, 16, api.Mark{At: 0, First: 1, Gen: math.MinInt}, 1},
		{24, 0, 16, api.Mark{At: 0, First: 1, Gen: math.MaxInt}, 1},
		{24, 0, 16, api.Mark{}, 1},
	} {
		d := plate.New(c.sectors)
		l, list, e := scroll.Open(d, c.from, c.count, c.m)
		if e != c.want || (l != nil) != (e == 0) || len(list) != 0 {
			t.Errorf("row %d: %d entries, %d, wanted %d", k, len(list), e, c.want)
		}
		if e == 0 && (l.Last() != c.m.First-1 || l.Sure() != c.m.First-1 || l.Room() != c.count) {
			t.Errorf("row %d: Last %d, Sure %d, Room %d", k, l.Last(), l.Sure(), l.Room())
		}
		d.Off()
		want := c.want
		if want == 0 {
			want = 10
		}
		if l, list, e := scroll.Open(d, c.from, c.count, c.m); l != nil || len(list) != 0 || e != want {
			t.Errorf("row %d, without power: %d, wanted %d", k, e, want)
		}
		if l, list, e := scroll.Open(nil, c.from, c.count, c.m); l != nil || len(list) != 0 || e != 2 {
			t.Errorf("row %d, without a plate: %d", k, e)
		}
		if d.Acts() != 0 {
			t.Errorf("row %d: %d acts", k, d.Acts())
		}
	}
}

func TestOpenBehindLosses(t *testing.T) {
	s := site{plate.New(30), 3, 20}
	list := filled(1, 900)
	add(t, s.open(t, api.Mark{At: 7, First: 5, Gen: 1}, nil), list)
	for range 3 {
		s.d.Off()
		s.d.On(nil)
	}
	l := s.open(t, api.Mark{At: 7, First: 5, Gen: 2}, list)
	add(t, l, filled(9, 100))
}

// P7.1, Words: the bytes of the sectors.

func TestBytes(t *testing.T) {
	s := site{plate.New(24), 4, 20}
	x := api.Entry{Kind: api.Commit, Txn: api.Txn{Client: 1, Epoch: 1, N: 1}, Lsn: 5, Prev: 4}
	add(t, s.open(t, api.Mark{At: 0x0123456789, First: 77, Gen: 0x2abbccdd}, nil), []api.Entry{x, x})
	want := "\x00\x00\x00\x01\x23\x45\x67\x89" + "\x2a\xbb\xcc\xdd" + "\x00\x00\x00\x01\x23\x45\x67\x89" + "\x00\x01" + "\x00\x0c" +
		"\x06\x02\x02\x02\x0a\x08" + "\x06\x02\x02\x02\x0a\x08" + strings.Repeat("\x00", 220)
	if got := raw(t, s.d, 4+0x0123456789%20); got != want {
		t.Errorf("%x", got)
	}
	for n := range 24 {
		if n != 4+0x0123456789%20 && raw(t, s.d, n) != strings.Repeat("\x00", 256) {
			t.Errorf("%d is written", n)
		}
	}
}

func TestBytesOfMany(t *testing.T) {
	for length, sectors := range map[int]int{12: 1, 231: 1, 232: 1, 233: 2, 463: 2, 464: 2, 465: 3, 928: 4, 3711: 16, 3712: 16} {
		s := site{plate.New(20), 2, 16}
		l := s.open(t, api.Mark{At: 29, First: 3, Gen: 6}, nil)
		list := filled(3, length)
		add(t, l, list)
		if l.Room() != 16-sectors || s.d.Acts() != sectors+1 || s.d.Waits() != 0 {
			t.Errorf("%d: Room %d, Acts %d, Waits %d", length, l.Room(), s.d.Acts(), s.d.Waits())
		}
		body := bytesOf(list...)
		for k := range sectors {
			load := body[k*232 : min(k*232+232, len(body))]
			want := rec{uint64(29 + k), 6, 29, uint16(sectors), uint16(len(load)), load}.bytes()
			if got := raw(t, s.d, 2+(29+k)%16); got != want {
				t.Errorf("%d, %d: %x, wanted %x", length, k, got, want)
			}
		}
		for n := range 20 {
			if k := (n - 2 - 29 + 32) % 16; (n < 2 || n >= 18 || k >= sectors) && raw(t, s.d, n) != strings.Repeat("\x00", 256) {
				t.Errorf("%d: %d is written", length, n)
			}
		}
		s.open(t, api.Mark{At: 29, First: 3, Gen: 6}, list)
	}
}

// P7.2

func TestAppendRefuses(t *testing.T) {
	s := site{plate.New(16), 0, 16}
	m := &plain{first: 1, gen: 1, count: 16}
	l := s.open(t, api.Mark{First: 1, Gen: 1}, nil)
	refuse := func(x api.Entry, want api.Errno) {
		t.Helper()
		if n, e := l.Append(x); n != 0 || e != want {
			t.Errorf("Append: %d, %d, wanted 0, %d", n, e, want)
		}
		agree(t, l, m)
	}
	accept := func(x api.Entry) {
		t.Helper()
		want, _ := m.append(x)
		if n, e := l.Append(x); n != want || e != 0 {
			t.Errorf("Append: %d, %d, wanted %d", n, e, want)
		}
		agree(t, l, m)
	}
	for _, x := range badEntries() {
		refuse(x, 1)
	}
	for k := range 15 {
		accept(sized(k, 232))
	}
	refuse(sized(90, 233), 11)
	accept(sized(91, 220)) // the refused one has taken no room
	refuse(sized(92, 13), 11)
	accept(sized(93, 12))
	refuse(sized(94, 6), 11)
	for _, x := range badEntries() { // ahead of ErrFull
		refuse(x, 1)
	}
	code(t, "Force", l.Force(), 0)
	m.force()
	agree(t, l, m)
	refuse(sized(95, 6), 11)
	code(t, "Force", l.Force(), 0)
	if s.d.Acts() != 17 {
		t.Errorf("%d acts", s.d.Acts())
	}
	s.open(t, api.Mark{First: 1, Gen: 1}, m.all())
}

func TestBatchesFillTheLog(t *testing.T) {
	s := site{plate.New(20), 3, 17}
	m := &plain{at: 5, first: 1, gen: 1, count: 17}
	l := s.open(t, api.Mark{At: 5, First: 1, Gen: 1}, nil)
	for k := range 17 { // each batch takes a sector of its own
		x := sized(k, 6)
		add(t, l, []api.Entry{x})
		m.append(x)
		m.force()
		agree(t, l, m)
	}
	if n, e := l.Append(sized(50, 6)); n != 0 || e != 11 {
		t.Error(n, e)
	}
	s.open(t, api.Mark{At: 5, First: 1, Gen: 1}, m.all())
	x, _ := l.Mark(4, 2)
	code(t, "Cut", l.Cut(x), 0)
	m.cut(x)
	agree(t, l, m)
	list := filled(60, 3*232)
	add(t, l, list)
	m.batches = append(m.batches, list)
	agree(t, l, m)
	if n, e := l.Append(sized(70, 6)); n != 0 || e != 11 {
		t.Error(n, e)
	}
	s.open(t, api.Mark{At: 8, First: 4, Gen: 2}, m.all())
}

func TestGreatBatch(t *testing.T) {
	s := site{plate.New(1 << 14), 12000, 4096}
	m := api.Mark{At: 4000, First: 1 << 40, Gen: 1 << 30}
	l := s.open(t, m, nil)
	var all []api.Entry
	for lap := range 4 {
		for k := range 1024 {
			x := sized(lap*1024+k, 232)
			if n, e := l.Append(x); n != 1<<40+len(all) || e != 0 {
				t.Fatal(n, e)
			}
			all = append(all, x)
		}
		if l.Room() != 4096-1024*(lap+1) {
			t.Error(l.Room())
		}
		if n, e := l.Append(sized(1, 6)); n != 0 || e != 11 { // there is room, but for a batch of its own alone
			t.Error(n, e)
		}
		code(t, "Force", l.Force(), 0)
		if s.d.Acts() != 1025*(lap+1) {
			t.Error(s.d.Acts())
		}
	}
	if n, e := l.Append(sized(1, 6)); n != 0 || e != 11 {
		t.Error(n, e)
	}
	l = s.open(t, m, all)
	// The numbers that a log comes to are not bounded as those that it is opened with.
	if x, e := l.Mark(1<<40+2500, 9); e != 0 || x != (api.Mark{At: 4000 + 2048, First: 1<<40 + 2048, Gen: 9}) {
		t.Error(x, e)
	}
	code(t, "Cut", l.Cut(api.Mark{At: 8096, First: 1<<40 + 4096, Gen: 1}), 0)
	add(t, l, []api.Entry{sized(1, 6)})
	if l.Room() != 4095 || l.Last() != 1<<40+4096 {
		t.Error(l.Room(), l.Last())
	}
}

func TestManySmallEntries(t *testing.T) {
	s := site{plate.New(1024), 0, 1024}
	l := s.open(t, api.Mark{First: 1, Gen: 1}, nil)
	var all []api.Entry
	for k := range 1024 * 232 / 6 {
		x := sized(k, 6)
		if n, e := l.Append(x); n != k+1 || e != 0 {
			t.Fatal(k, n, e)
		}
		all = append(all, x)
	}
	code(t, "Force", l.Force(), 0)
	s.open(t, api.Mark{First: 1, Gen: 1}, all)
}

// P7.2: without power.

func TestDown(t *testing.T) {
	for k, gone := range []func(d *plate.Plate, l *scroll.Log){
		func(d *plate.Plate, l *scroll.Log) { d.Off() },
		func(d *plate.Plate, l *scroll.Log) { d.Off(); d.On([]int{1}) },
		func(d *plate.Plate, l *scroll.Log) { d.Arm(1); d.Sync(); d.On(nil) },
		func(d *plate.Plate, l *scroll.Log) { d.Arm(1); l.Force() },
		func(d *plate.Plate, l *scroll.Log) { d.Arm(2); l.Force(); d.On([]int{1}) },
		func(d *plate.Plate, l *scroll.Log) { d.Arm(3); l.Force(); d.On([]int{1}) },
	} {
		s := site{plate.New(20), 0, 20}
		m := &plain{at: 3, first: 10, gen: 1, count: 20, batches: [][]api.Entry{filled(1, 300), filled(3, 50)}, waiting: filled(5, 420)}
		l := s.open(t, api.Mark{At: 3, First: 10, Gen: 1}, nil)
		add(t, l, m.batches[0])
		add(t, l, m.batches[1])
		for _, x := range m.waiting {
			l.Append(x)
		}
		gone(s.d, l)
		acts, waits := s.d.Acts(), s.d.Waits()
		for _, x := range append(badEntries(), sized(7, 6), sized(7, 400)) { // ahead of ErrArg and ErrFull
			if n, e := l.Append(x); n != 0 || e != 10 {
				t.Errorf("row %d: Append: %d, %d", k, n, e)
			}
		}
		code(t, "Force", l.Force(), 10)
		agree(t, l, m)
		x, e := l.Mark(12, 4)
		if want, _ := m.mark(12, 4); e != 0 || x != want {
			t.Errorf("row %d: Mark: %v, %d, wanted %v", k, x, e, want)
		}
		code(t, "Cut", l.Cut(x), 0)
		m.cut(x)
		agree(t, l, m)
		code(t, "Force", l.Force(), 10)
		if s.d.Acts() != acts || s.d.Waits() != waits {
			t.Errorf("row %d: acts without power", k)
		}
	}
}

func TestDownWhenNothingWaits(t *testing.T) {
	s := site{plate.New(20), 0, 20}
	l := s.open(t, api.Mark{First: 1, Gen: 1}, nil)
	code(t, "Force", l.Force(), 0)
	s.d.Arm(1)
	code(t, "Force", l.Force(), 0) // no act
	s.d.Off()
	code(t, "Force", l.Force(), 10)
	s.d.On(nil)
	code(t, "Force", l.Force(), 10)
	if s.d.Acts() != 0 {
		t.Error(s.d.Acts())
	}
	add(t, s.open(t, api.Mark{First: 1, Gen: 2}, nil), filled(1, 50))
}

// P7.6: the sectors are written in order, and nothing behind that in which the power goes.
func TestActs(t *testing.T) {
	for at := 1; at <= 5; at++ {
		s := site{plate.New(20), 2, 18}
		l := s.open(t, api.Mark{At: 16, First: 1, Gen: 1}, nil)
		for _, x := range filled(1, 1000) {
			l.Append(x)
		}
		if s.d.Acts() != 0 {
			t.Fatal("Append has written")
		}
		s.d.Arm(at)
		code(t, "Force", l.Force(), 10)
		if s.d.Acts() != at || s.d.Waits() != at {
			t.Errorf("%d: Acts %d, Waits %d", at, s.d.Acts(), s.d.Waits())
		}
		s.d.On([]int{1})
		for k := range 5 {
			want := k < at
			if is := raw(t, s.d, 2+(16+k)%18)[7] == byte(16+k); is != want {
				t.Errorf("%d: %d is written: %v", at, k, is)
			}
		}
	}
	s := site{plate.New(20), 2, 18}
	l := s.open(t, api.Mark{At: 16, First: 1, Gen: 1}, nil)
	for _, x := range filled(1, 1000) {
		l.Append(x)
	}
	s.d.Arm(6) // the Sync
	code(t, "Force", l.Force(), 10)
	if s.d.Acts() != 6 || s.d.Waits() != 5 {
		t.Error(s.d.Acts(), s.d.Waits())
	}
}

// P7.4

func TestFrom(t *testing.T) {
	s := site{plate.New(20), 0, 20}
	m := &plain{first: 100, gen: 1, count: 20, batches: [][]api.Entry{filled(1, 500), filled(5, 50), filled(7, 800)}, waiting: filled(20, 700)}
	l := s.open(t, api.Mark{First: 100, Gen: 1}, nil)
	for _, b := range m.batches {
		add(t, l, b)
	}
	for _, x := range m.waiting {
		l.Append(x)
	}
	all := m.all()
	for n := 100; n <= 100+len(all); n++ {
		for range 2 {
			if !slices.Equal(numbered(t, l.From(n), n), all[n-100:]) {
				t.Error(n)
			}
		}
	}
	for _, n := range []int{math.MinInt, math.MinInt + 99, -1, 0, 1, 99} {
		if !slices.Equal(numbered(t, l.From(n), 100), all) {
			t.Error(n)
		}
	}
	for _, n := range []int{100 + len(all), 101 + len(all), 1 << 40, math.MaxInt} {
		if list := numbered(t, l.From(n), n); len(list) != 0 {
			t.Error(n, len(list))
		}
	}
	for stop := range all {
		seen := 0
		for n, x := range l.From(0) {
			if n != 100+seen || x != all[seen] {
				t.Error(n)
			}
			seen++
			if seen > stop {
				break
			}
		}
		if seen != stop+1 {
			t.Error(stop, seen)
		}
	}
	if list := numbered(t, s.open(t, api.Mark{At: 90, First: 1, Gen: 1}, nil).From(0), 1); len(list) != 0 {
		t.Error(len(list))
	}
}

// pair is a log and its plain reading, to which the same is done.
type pair struct {
	l *scroll.Log
	m *plain
}

func (p pair) append(x api.Entry) { p.l.Append(x); p.m.append(x) }

func (p pair) force() { p.l.Force(); p.m.force() }

func (p pair) cut(n int) {
	x, _ := p.m.mark(n, 1)
	p.l.Cut(x)
	p.m.cut(x)
}

func TestFromIsAsAtItsBeginning(t *testing.T) {
	for k, meanwhile := range []func(p pair, n int){
		func(p pair, n int) { p.append(sized(n, 30)) },
		func(p pair, n int) { p.append(sized(n, 30)); p.force() },
		func(p pair, n int) { p.force() },
		func(p pair, n int) { p.cut(n); p.append(sized(n, 30)) },
		func(p pair, n int) { p.cut(p.l.Sure() + 1); p.append(sized(n, 30)); p.append(sized(n, 40)); p.force() },
	} {
		l := site{plate.New(20), 0, 20}.open(t, api.Mark{First: 1, Gen: 1}, nil)
		p := pair{l, &plain{first: 1, gen: 1, count: 20}}
		going := l.From(2) // asked ahead of all entries
		if list := numbered(t, going, 2); len(list) != 0 {
			t.Error(k, len(list))
		}
		for i := range 12 {
			p.append(sized(i+100, 25))
			if i%3 == 1 {
				p.force()
			}
		}
		all := p.m.all()
		seen := 1
		for n, x := range going {
			if seen == len(all) || n != seen+1 || x != all[seen] {
				t.Fatal(k, n)
			}
			seen++
			meanwhile(p, n)
			agree(t, l, p.m)
			first := max(2, p.m.first)
			if inner := numbered(t, going, first); !slices.Equal(inner, p.m.all()[first-p.m.first:]) { // a going of its own
				t.Fatal(k, n, len(inner))
			}
		}
		if seen != len(all) {
			t.Error(k, seen)
		}
	}
}

func TestMarkAndCut(t *testing.T) {
	s := site{plate.New(20), 0, 20}
	l := s.open(t, api.Mark{At: 30, First: 50, Gen: 3}, nil)
	m := &plain{at: 30, first: 50, gen: 3, count: 20, batches: [][]api.Entry{filled(1, 500), filled(5, 50), filled(7, 800)}, waiting: filled(20, 700)}
	for _, b := range m.batches {
		add(t, l, b)
	}
	for _, x := range m.waiting {
		l.Append(x)
	}
	sure := 49 + len(m.sure())
	check := func(n, gen int) {
		t.Helper()
		want, e := m.mark(n, gen)
		if got, e2 := l.Mark(n, gen); got != want || e2 != e {
			t.Errorf("Mark(%d, %d): %v, %d, wanted %v, %d", n, gen, got, e2, want, e)
		}
	}
	for n := 40; n <= sure+10; n++ {
		check(n, 1)
		check(n, 1<<30)
		check(n, 0)
		check(n, 1<<30+1)
	}
	for _, n := range []int{math.MinInt, -1, 0, 1, math.MaxInt} {
		check(n, 3)
		check(50, n)
	}
	if got, e := l.Mark(sure+1, 7); e != 0 || got != (api.Mark{At: 30 + 3 + 1 + 4, First: sure + 1, Gen: 7}) {
		t.Error(got, e)
	}
	acts := s.d.Acts()
	for _, x := range []api.Mark{{}, {At: 31, First: 51}, {At: 30, First: 51}, {At: 31, First: 50}, {At: math.MinInt, First: math.MinInt},
		{At: math.MaxInt, First: math.MaxInt}, {At: -1}, {At: 1 << 41, First: 1 << 41}, {At: 50, First: 50}, {At: 10, First: 50}} {
		x.Gen = 3
		code(t, "Cut", l.Cut(x), 1)
	}
	for i, x := range m.starts() {
		for _, gen := range []int{math.MinInt, -1, 0, 1<<30 + 1, math.MaxInt} {
			code(t, "Cut", l.Cut(api.Mark{At: x.At, First: x.First, Gen: gen}), 1)
		}
		for _, dx := range []int{-20, -1, 1, 20} {
			code(t, "Cut", l.Cut(api.Mark{At: x.At + dx, First: x.First, Gen: 3}), 1)
			code(t, "Cut", l.Cut(api.Mark{At: x.At, First: x.First + dx, Gen: 3}), 1)
		}
		code(t, "Cut", l.Cut(api.Mark{At: x.At, First: m.starts()[(i+1)%4].First, Gen: 3}), 1)
	}
	agree(t, l, m)
	for _, x := range m.starts() {
		x.Gen = 1 + x.First%3
		code(t, "Cut", l.Cut(x), 0)
		m.cut(x)
		agree(t, l, m)
		check(x.First-1, 1)
		check(x.First, 1)
		if x.First > 50 {
			code(t, "Cut", l.Cut(api.Mark{At: 30, First: 50, Gen: 1}), 1)
		}
	}
	if s.d.Acts() != acts {
		t.Error("Cut has written")
	}
	code(t, "Force", l.Force(), 0)
	m.force()
	agree(t, l, m)
	s.open(t, api.Mark{At: m.at, First: m.first, Gen: 3}, m.all())
}

func TestGenerations(t *testing.T) {
	s := site{plate.New(20), 0, 20}
	l := s.open(t, api.Mark{First: 1, Gen: 5}, nil)
	want := []int{5}
	add(t, l, []api.Entry{sized(0, 6)})
	for k, gen := range []int{4, 1, 5, 6, 5, 1 << 30, 9} {
		x, e := l.Mark(2, gen)
		code(t, "Mark", e, 0)
		if k == 0 {
			code(t, "Cut", l.Cut(x), 0)
		} else {
			code(t, "Cut", l.Cut(api.Mark{At: 1, First: 2, Gen: gen}), 0)
		}
		want = append(want, max(want[k], gen))
		add(t, l, []api.Entry{sized(k, 6)})
	}
	for k, gen := range want {
		if got := raw(t, s.d, k)[8:12]; got != number(gen, 4) {
			t.Errorf("%d: %x, wanted %x", k, got, gen)
		}
	}
}

// Rules 3 and 5, P7.6.

func TestNewMemory(t *testing.T) {
	s := site{plate.New(20), 0, 20}
	m := api.Mark{First: 1, Gen: 1}
	all := filled(1, 2000)
	add(t, s.open(t, m, nil), all)
	l, list, _ := scroll.Open(s.d, 0, 20, m)
	clear(list[:cap(list)])
	if !slices.Equal(numbered(t, l.From(1), 1), all) {
		t.Error("the answer is the log's own")
	}
	list = append(list[:len(all)], sized(1, 6))
	l.Append(sized(2, 6))
	if list[len(all)] != sized(1, 6) {
		t.Error("the spare room is the log's own")
	}
	if _, again, _ := scroll.Open(s.d, 0, 20, m); !slices.Equal(again, all) {
		t.Error("the plate's is changed")
	}
}

func TestTwoLogs(t *testing.T) {
	d := plate.New(40)
	a, b := site{d, 0, 20}, site{d, 20, 20}
	m := api.Mark{First: 1, Gen: 1}
	l, k := a.open(t, m, nil), b.open(t, m, nil)
	for i := range 10 {
		add(t, l, []api.Entry{sized(i, 30)})
		add(t, k, []api.Entry{sized(i+50, 40)})
	}
	var first, second []api.Entry
	for i := range 10 {
		first, second = append(first, sized(i, 30)), append(second, sized(i+50, 40))
	}
	a.open(t, m, first)
	b.open(t, m, second)
	l.Append(sized(1, 6))
	d.Arm(1)
	code(t, "Force", l.Force(), 10)
	if _, e := k.Append(sized(1, 6)); e != 10 {
		t.Error(e)
	}
}

func TestNilLog(t *testing.T) {
	var l *scroll.Log
	for _, x := range append(badEntries(), sized(1, 6)) {
		if n, e := l.Append(x); n != 0 || e != 2 {
			t.Error(n, e)
		}
	}
	code(t, "Force", l.Force(), 2)
	if l.Last() != 0 || l.Sure() != 0 || l.Room() != 0 {
		t.Error(l.Last(), l.Sure(), l.Room())
	}
	for _, n := range []int{math.MinInt, 0, 1, math.MaxInt} {
		for range l.From(n) {
			t.Error(n)
		}
		if m, e := l.Mark(n, n); m != (api.Mark{}) || e != 2 {
			t.Error(m, e)
		}
		code(t, "Cut", l.Cut(api.Mark{At: n, First: n, Gen: n}), 2)
	}
}

// All calls, held against the plain reading by chance.

func TestByChance(t *testing.T) {
	r := rand.New(rand.NewSource(7))
	for trial := range 150 {
		s := site{from: r.Intn(6), count: 16 + r.Intn(12)}
		s.d = plate.New(s.from + s.count + r.Intn(3))
		m := &plain{at: r.Intn(60), first: 1 + r.Intn(50), gen: 1 + r.Intn(4), count: s.count}
		if trial%5 == 0 {
			m.at, m.first, m.gen = 1<<40-r.Intn(60), 1<<40-r.Intn(60), 1<<30-r.Intn(4)
		}
		l := s.open(t, api.Mark{At: m.at, First: m.first, Gen: m.gen}, nil)
		for step := range 150 {
			chance(t, r, s, l, m, trial*1000+step)
			agree(t, l, m)
			if r.Intn(20) == 0 && m.at <= 1<<40 && m.first <= 1<<40 {
				m.gen, m.waiting = min(m.gen+r.Intn(2), 1<<30), nil
				l = s.open(t, api.Mark{At: m.at, First: m.first, Gen: m.gen}, m.sure())
			}
		}
	}
}

func chance(t *testing.T, r *rand.Rand, s site, l *scroll.Log, m *plain, k int) {
	t.Helper()
	switch r.Intn(8) {
	case 0, 1, 2:
		x := sized(k, 6+r.Intn(50)*r.Intn(8))
		want, e := m.append(x)
		if n, e2 := l.Append(x); n != want || e2 != e {
			t.Fatalf("Append: %d, %d, wanted %d, %d", n, e2, want, e)
		}
	case 3, 4:
		acts := s.d.Acts()
		list := m.force()
		code(t, "Force", l.Force(), 0)
		if len(list) > 0 {
			acts += len(list) + 1
		}
		if s.d.Acts() != acts || s.d.Waits() != 0 {
			t.Fatalf("Force: %d acts, wanted %d", s.d.Acts(), acts)
		}
		for _, x := range list {
			if raw(t, s.d, s.from+int(x.n)%s.count) != x.bytes() {
				t.Fatalf("sector %d", x.n)
			}
		}
	case 5:
		n, gen := m.first-1+r.Intn(len(m.all())+3), m.gen-2+r.Intn(4)
		want, e := m.mark(n, gen)
		if got, e2 := l.Mark(n, gen); got != want || e2 != e {
			t.Fatalf("Mark(%d, %d): %v, %d, wanted %v, %d", n, gen, got, e2, want, e)
		}
	case 6:
		x, _ := m.mark(m.first+r.Intn(len(m.sure())+1), m.gen)
		x.At += r.Intn(5) / 4
		x.Gen += r.Intn(3) - 1
		e := m.cut(x)
		code(t, "Cut", l.Cut(x), e)
	case 7:
		n := m.first + r.Intn(len(m.all())+1)
		if !slices.Equal(numbered(t, l.From(n), n), m.all()[n-m.first:]) {
			t.Fatal("From", n)
		}
	}
}
