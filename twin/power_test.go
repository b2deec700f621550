package twin_test

import (
	"math/rand"
	"slices"
	"strings"
	"testing"

	"seneschal/api"
	"seneschal/plate"
	"seneschal/twin"
)

// P8.4

// fatesOf are all fates that so many writes can have.
func fatesOf(writes int) [][]int {
	all := [][]int{nil}
	for range writes {
		var more [][]int
		for _, fates := range all {
			for fate := range 3 {
				more = append(more, append(slices.Clone(fates), fate))
			}
		}
		all = more
	}
	return all
}

// The example.
func TestExample(t *testing.T) {
	s := small()
	store := s.good(t)
	write(t, store, []api.Leaf{{N: 3, Page: page(4, "old")}}, 0)
	s.d.Arm(3)
	write(t, store, []api.Leaf{{N: 3, Page: page(5, "new")}}, 10)
	s.d.On([]int{2})
	if dump(s.d)[s.home(3)] != torn {
		t.Error("it isn't torn")
	}
	has(t, s.good(t), 3, page(5, "new"))
}

// A Write's acts, one by one, and what each leaves.
func TestActs(t *testing.T) {
	list := []api.Leaf{{N: 4, Page: page(5, "a")}, {N: 0, Page: page(6, "b")}, {N: 2, Page: page(7, "c")}}
	for at := 1; at <= 8; at++ {
		s := small()
		store := s.good(t)
		want := dump(s.d)
		s.d.Arm(at)
		write(t, store, list, 10)
		waits := min(at, 3)
		if at > 4 {
			waits = min(at-4, 3)
		}
		if s.d.Acts() != at || s.d.Waits() != waits {
			t.Errorf("act %d: Acts %d, Waits %d", at, s.d.Acts(), s.d.Waits())
		}
		s.d.On([]int{1})
		for i, x := range list {
			if at > i {
				want[s.twin(i)] = sector(x.N, x.Page)
			}
			if at > 4+i {
				want[s.home(x.N)] = sector(x.N, x.Page)
			}
		}
		if !slices.Equal(dump(s.d), want) {
			t.Errorf("act %d: other sectors", at)
		}
		s.good(t)
	}
	s := small()
	store := s.good(t)
	s.d.Arm(9)
	write(t, store, list, 0)
}

// trial is a plate to which the power may go again and again, and what each page may be.
type trial struct {
	site
	may map[int][]api.Page
}

func (c trial) clone(t *testing.T) trial {
	t.Helper()
	d := trial{c.site, map[int][]api.Page{}}
	d.d = plate.New(c.d.Sectors())
	sectors := map[int]string{}
	for n, b := range dump(c.d) {
		sectors[n] = b
	}
	d.put(t, sectors)
	for n, list := range c.may {
		d.may[n] = slices.Clone(list)
	}
	return d
}

// check opens, and each page is one of those that it may be, and is that from now on.
func (c trial) check(t *testing.T) *twin.Store {
	t.Helper()
	store := c.good(t)
	for n := range c.pages {
		p, _ := store.Read(n)
		if !slices.ContainsFunc(c.may[n], func(q api.Page) bool { return same(p, q) }) {
			t.Fatalf("page %d: %v, wanted one of %v", n, p, c.may[n])
		}
		c.may[n] = []api.Page{p}
	}
	return store
}

// cut writes while the power goes in an act, and these fates come.
func (c trial) cut(t *testing.T, store *twin.Store, list []api.Leaf, act int, fates []int) {
	t.Helper()
	c.d.Arm(act)
	write(t, store, list, 10)
	c.d.On(fates)
	for _, x := range list {
		c.may[x.N] = append(c.may[x.N], x.Page)
	}
}

// cutOpen opens while the power goes in an act; false: there is no such act.
func (c trial) cutOpen(t *testing.T, act int) bool {
	t.Helper()
	acts := c.d.Acts()
	c.d.Arm(act)
	store, e := twin.Open(c.d, c.from, c.twins, c.pages)
	if e == 0 {
		c.d.Arm(0)
		return false
	}
	if store != nil || e != 10 || c.d.Acts() != acts+act {
		t.Fatalf("Open: %d, %d acts, cut off in %d", e, c.d.Acts()-acts, act)
	}
	return true
}

// base is a store of three pages, two twins, each page written.
func base(t *testing.T) trial {
	t.Helper()
	c := trial{site{plate.New(6), 1, 2, 3}, map[int][]api.Page{}}
	store := c.good(t)
	for n := range 3 {
		c.may[n] = []api.Page{page(n+1, "base")}
		write(t, store, []api.Leaf{{N: n, Page: page(n+1, "base")}}, 0)
	}
	return c
}

// cutsOf calls with each way in which a Write of two pages is cut off.
func cutsOf(yield func(act int, fates []int)) {
	for act := 1; act <= 6; act++ {
		writes := []int{1, 2, 2, 1, 2, 2}[act-1]
		for _, fates := range fatesOf(writes) {
			yield(act, fates)
		}
	}
}

// A Write is cut off in every act with every fate, the Open behind it too, and then another Write and its Open.
func TestEveryAct(t *testing.T) {
	first := []api.Leaf{{N: 1, Page: page(8, "first")}, {N: 2, Page: page(9, "first")}}
	second := []api.Leaf{{N: 2, Page: page(12, "second")}, {N: 0, Page: page(11, "second")}}
	one := base(t)
	cutsOf(func(act int, fates []int) {
		two := one.clone(t)
		two.cut(t, two.good(t), first, act, fates)
		opens(t, two, func(three trial) {
			cutsOf(func(act int, fates []int) {
				four := three.clone(t)
				four.cut(t, four.check(t), second, act, fates)
				four.check(t)
				four.check(t)
			})
		})
	})
}

// opens calls with each plate that an Open leaves which is cut off, and with that of one which isn't.
func opens(t *testing.T, c trial, yield func(c trial)) {
	t.Helper()
	yield(c.clone(t))
	for act := 1; ; act++ {
		waits := 0
		if d := c.clone(t); !d.cutOpen(t, act) {
			return
		} else {
			waits = d.d.Waits()
		}
		for _, fates := range fatesOf(waits) {
			d := c.clone(t)
			d.cutOpen(t, act)
			d.d.On(fates)
			yield(d)
		}
	}
}

// Opens are cut off twice, with every fate, and a third one goes on.
func TestOpensCutOff(t *testing.T) {
	lay := func() trial {
		c := base(t)
		store := c.good(t)
		list := []api.Leaf{{N: 2, Page: page(8, "new")}, {N: 0, Page: page(9, "new")}}
		c.cut(t, store, list, 6, []int{2})
		return c
	}
	count := 0
	opens(t, lay(), func(c trial) {
		opens(t, c, func(c trial) {
			store := c.check(t)
			has(t, store, 2, page(8, "new"))
			has(t, store, 0, page(9, "new"))
			has(t, store, 1, page(2, "base"))
			count++
		})
	})
	if count < 200 {
		t.Error(count)
	}
}

// The power goes by chance, again and again; others' writes wait beside.
func TestPowerByChance(t *testing.T) {
	r := rand.New(rand.NewSource(7))
	kinds := map[string]int{}
	for range 100 {
		twins, pages := 1+r.Intn(5), 1+r.Intn(9)
		c := trial{site{plate.New(3 + twins + pages + 2), 3, twins, pages}, map[int][]api.Page{}}
		for n := range pages {
			c.may[n] = []api.Page{{}}
		}
		store, lsn := c.check(t), 0
		for range 150 {
			list := risingList(r, c, &lsn)
			if r.Intn(3) == 0 {
				c.d.Write(r.Intn(3), strings.Repeat("o", 256))
			}
			act := 0
			if r.Intn(2) == 0 {
				act = 1 + r.Intn(2*len(list)+2)
			}
			c.d.Arm(act)
			want := api.OK
			if act > 0 && len(list) > 0 {
				want = api.ErrDown
			}
			write(t, store, list, want)
			for _, x := range list {
				if want == 0 {
					c.may[x.N] = nil
				}
				c.may[x.N] = append(c.may[x.N], x.Page)
			}
			c.d.Off()
			c.d.On(someFates(r))
			for r.Intn(2) == 0 && c.cutOpen(t, 1+r.Intn(4)) {
				c.d.On(someFates(r))
				kinds["opens"]++
			}
			if slices.Contains(dump(c.d)[c.from+twins:c.from+twins+pages], torn) {
				kinds["torn"]++
			}
			store = c.check(t)
		}
	}
	if kinds["opens"] < 100 || kinds["torn"] < 300 {
		t.Error("too few kinds of goings", kinds)
	}
}

// risingList is a list of pages, whose Lsns are above all that were.
func risingList(r *rand.Rand, c trial, lsn *int) []api.Leaf {
	var list []api.Leaf
	for _, n := range r.Perm(c.pages)[:r.Intn(1+min(c.pages, c.twins))] {
		*lsn += 1 + r.Intn(3)
		list = append(list, api.Leaf{N: n, Page: page(*lsn, strings.Repeat("x", r.Intn(200)))})
	}
	r.Shuffle(len(list), func(i, j int) { list[i], list[j] = list[j], list[i] })
	return list
}

func someFates(r *rand.Rand) []int {
	fates := make([]int, r.Intn(8))
	for i := range fates {
		fates[i] = r.Intn(13) - 6
	}
	return fates
}
