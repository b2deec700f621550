package twin_test

import (
	"encoding/binary"
	"maps"
	"reflect"
	"slices"
	"strings"
	"testing"

	"seneschal/api"
	"seneschal/plate"
	"seneschal/slab"
	"seneschal/twin"
)

// page is an image with these records, one a slot.
func page(lsn int, records ...string) api.Page {
	p := api.Page{Lsn: lsn}
	for _, s := range records {
		p.Slots = append(p.Slots, api.Slot{Used: true, Data: s})
	}
	return p
}

func same(p, q api.Page) bool {
	return p.Lsn == q.Lsn && slices.Equal(p.Slots, q.Slots)
}

var zeros = strings.Repeat("\x00", 256)

// torn stands for a sector that can't be read.
const torn = "torn"

// tail is what the chapter puts behind an image.
func tail(n uint32) string {
	return string(binary.BigEndian.AppendUint32([]byte("PAGE"), n)) + "\x00\x00\x00\x00\x00\x00\x00\x00"
}

func sector(n int, p api.Page) string {
	image, e := slab.Encode(p)
	if e != 0 {
		panic(e)
	}
	return image + tail(uint32(n))
}

// pageOf reads bytes plainly: the image, if they are the sector of the page n.
func pageOf(b string, n int) (api.Page, bool) {
	if len(b) != 256 || b[240:] != tail(uint32(n)) {
		return api.Page{}, false
	}
	p, e := slab.Decode(b[:240])
	return p, e == 0
}

// site is where a store is.
type site struct {
	d                  *plate.Plate
	from, twins, pages int
}

// small has sectors ahead of the twins and behind the homes.
func small() site { return site{plate.New(12), 2, 3, 5} }

func (s site) twin(i int) int { return s.from + i }

func (s site) home(n int) int { return s.from + s.twins + n }

// put lays bytes in sectors of the plate, or tears them; the power goes in that.
func (s site) put(t *testing.T, sectors map[int]string) {
	t.Helper()
	var fates []int
	for _, n := range slices.Sorted(maps.Keys(sectors)) {
		b, fate := sectors[n], 1
		if b == torn {
			b, fate = strings.Repeat("?", 256), 2
		}
		if e := s.d.Write(n, b); e != 0 {
			t.Fatal(n, e)
		}
		fates = append(fates, fate)
	}
	s.d.Off()
	s.d.On(fates)
}

// dump is all sectors of a plate.
func dump(d *plate.Plate) []string {
	var list []string
	for n := range d.Sectors() {
		b, e := d.Read(n)
		if e == 20 {
			b = torn
		}
		list = append(list, b)
	}
	return list
}

// opened reads the chapter plainly: what an Open makes of the sectors, which ones it writes, and what it answers, if the power doesn't go in it.
func (s site) opened(before []string) (after []string, written []int, e api.Errno) {
	after = slices.Clone(before)
	for n := range s.pages {
		if before[s.home(n)] != torn {
			continue
		}
		var copies []string
		greatest := -1
		for i := range s.twins {
			if p, ok := pageOf(before[s.twin(i)], n); ok && p.Lsn >= greatest {
				if p.Lsn > greatest {
					copies = nil
				}
				greatest = p.Lsn
				copies = append(copies, before[s.twin(i)])
			}
		}
		if len(copies) > 0 {
			after[s.home(n)] = copies[0]
			written = append(written, s.home(n))
		}
	}
	for n := range s.pages {
		b := after[s.home(n)]
		if _, ok := pageOf(b, n); !ok && b != zeros {
			e = 4
		}
	}
	return after, written, e
}

// open opens, and holds all that comes of it against the plain reading.
func (s site) open(t *testing.T) (*twin.Store, api.Errno) {
	t.Helper()
	before, acts, waits := dump(s.d), s.d.Acts(), s.d.Waits()
	after, written, want := s.opened(before)
	store, e := twin.Open(s.d, s.from, s.twins, s.pages)
	if e != want || (store != nil) != (e == 0) {
		t.Fatalf("Open: %d, wanted %d", e, want)
	}
	if len(written) > 0 {
		acts, waits = acts+len(written)+1, 0
	}
	if s.d.Acts() != acts || s.d.Waits() != waits {
		t.Fatalf("Open: Acts %d, Waits %d, wanted %d, %d", s.d.Acts(), s.d.Waits(), acts, waits)
	}
	if !slices.Equal(dump(s.d), after) {
		t.Fatal("Open: other sectors")
	}
	if e == 0 {
		s.agree(t, store, after)
	}
	return store, e
}

// good opens what can be opened.
func (s site) good(t *testing.T) *twin.Store {
	t.Helper()
	store, e := s.open(t)
	if e != 0 {
		t.Fatal("Open", e)
	}
	return store
}

// agree: all pages are those that the sectors tell.
func (s site) agree(t *testing.T, store *twin.Store, sectors []string) {
	t.Helper()
	for n := range s.pages {
		want, _ := pageOf(sectors[s.home(n)], n)
		has(t, store, n, want)
	}
}

func has(t *testing.T, store *twin.Store, n int, want api.Page) {
	t.Helper()
	if p, e := store.Read(n); e != 0 || !same(p, want) {
		t.Fatalf("Read(%d): %v, %d, wanted %v", n, p, e, want)
	}
}

func hasNot(t *testing.T, store *twin.Store, n int, want api.Errno) {
	t.Helper()
	if p, e := store.Read(n); e != want || !reflect.DeepEqual(p, api.Page{}) {
		t.Errorf("Read(%d): %v, %d, wanted %d", n, p, e, want)
	}
}

func write(t *testing.T, store *twin.Store, list []api.Leaf, want api.Errno) {
	t.Helper()
	if e := store.Write(list); e != want {
		t.Errorf("Write of %d: %d, wanted %d", len(list), e, want)
	}
}

func copyList(list []api.Leaf) []api.Leaf {
	list = slices.Clone(list)
	for i := range list {
		list[i].Page.Slots = slices.Clone(list[i].Page.Slots)
	}
	return list
}

// written is what a Write that is OK makes of the sectors.
func (s site) written(before []string, list []api.Leaf) []string {
	after := slices.Clone(before)
	for i, x := range list {
		after[s.twin(i)] = sector(x.N, x.Page)
		after[s.home(x.N)] = sector(x.N, x.Page)
	}
	return after
}
