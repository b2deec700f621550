package knot_test

import (
	"cmp"
	"math"
	"math/rand"
	"slices"
	"testing"

	"seneschal/knot"
)

// plainStuck reads the chapter plainly: from each name all names are gone to that a row of edges leads to.
func plainStuck[K cmp.Ordered](list []knot.Edge[K]) []K {
	var stuck []K
	for _, e := range list {
		been := []K{}
		for more := []K{e.From}; len(more) > 0; more = more[1:] {
			for _, next := range list {
				if next.From == more[0] && !slices.Contains(been, next.To) {
					been, more = append(been, next.To), append(more, next.To)
				}
			}
		}
		if slices.Contains(been, e.From) && !slices.Contains(stuck, e.From) {
			stuck = append(stuck, e.From)
		}
	}
	slices.Sort(stuck)
	return stuck
}

// plainVictims takes out the greatest, again and again.
func plainVictims[K cmp.Ordered](list []knot.Edge[K]) []K {
	var victims []K
	list = slices.Clone(list)
	for {
		stuck := plainStuck(list)
		if len(stuck) == 0 {
			return victims
		}
		v := slices.Max(stuck)
		victims = append(victims, v)
		list = slices.DeleteFunc(list, func(e knot.Edge[K]) bool { return e.From == v || e.To == v })
	}
}

// agree holds all answers of a list against the plain readings.
func agree[K cmp.Ordered](t *testing.T, list []knot.Edge[K]) {
	t.Helper()
	stuck, victims := plainStuck(list), plainVictims(list)
	if got := knot.Stuck(list); !slices.Equal(got, stuck) {
		t.Fatalf("Stuck of %v: %v, wanted %v", list, got, stuck)
	}
	var most K
	if len(stuck) > 0 {
		most = stuck[len(stuck)-1]
	}
	if got, ok := knot.Victim(list); got != most || ok != (len(stuck) > 0) {
		t.Fatalf("Victim of %v: %v, %t, wanted %v", list, got, ok, most)
	}
	if got := knot.Victims(list); !slices.Equal(got, victims) {
		t.Fatalf("Victims of %v: %v, wanted %v", list, got, victims)
	}
}

// Each way in which some of four names, or fewer, can wait for some of them, in some order.
func TestEachWeb(t *testing.T) {
	r := rand.New(rand.NewSource(15))
	for bits := range 1 << 16 {
		var list []knot.Edge[int]
		for i := range 16 {
			if bits>>i&1 == 1 {
				list = append(list, knot.Edge[int]{From: i / 4, To: i % 4})
			}
		}
		r.Shuffle(len(list), func(i, j int) { list[i], list[j] = list[j], list[i] })
		agree(t, list)
	}
}

// Many names, few and many edges, some twice, names far apart.
func TestByChance(t *testing.T) {
	r := rand.New(rand.NewSource(16))
	for k := range 6000 {
		names := 1 + r.Intn(14)
		list := make([]knot.Edge[int], r.Intn(2+names*(1+k%4)))
		for i := range list {
			list[i] = knot.Edge[int]{From: (r.Intn(names) - 3) * (1 + k%1000), To: (r.Intn(names) - 3) * (1 + k%1000)}
		}
		agree(t, list)
	}
}

// Names that wait for those near them, so that rings are long, and within rings.
func TestByChanceOfRings(t *testing.T) {
	r := rand.New(rand.NewSource(17))
	for range 400 {
		names := 2 + r.Intn(30)
		as := r.Perm(names)
		var list []knot.Edge[int]
		for i := range names {
			if r.Intn(12) > 0 {
				list = append(list, knot.Edge[int]{From: as[i], To: as[(i+1)%names]})
			}
			if r.Intn(4) == 0 {
				list = append(list, knot.Edge[int]{From: as[i], To: as[(i+names-1-r.Intn(3)%names)%names]})
			}
		}
		r.Shuffle(len(list), func(i, j int) { list[i], list[j] = list[j], list[i] })
		agree(t, list)
	}
}

// Names of other types go by the order of these: texts, one the beginning of another one; numbers without a sign; parts of numbers.
func TestByChanceOfTypes(t *testing.T) {
	byChanceOf(t, 21, []string{"", "\x00", "a", "a\x00", "aa", "ab", "b", "\xc3\xa4", "\xff"})
	byChanceOf(t, 22, []uint64{0, 1, 2, 1<<31 - 1, 1 << 31, 1 << 32, 1 << 63, 1<<64 - 1})
	byChanceOf(t, 23, []int8{-128, -127, -1, 0, 1, 126, 127})
	byChanceOf(t, 24, []float64{math.Inf(-1), -1e300, -0.5, 0, 5e-324, 0.5, 0.75, math.Inf(1)})
}

func byChanceOf[K cmp.Ordered](t *testing.T, seed int64, names []K) {
	t.Helper()
	r := rand.New(rand.NewSource(seed))
	for k := range 1500 {
		list := make([]knot.Edge[K], r.Intn(2+len(names)*(1+k%3)))
		for i := range list {
			list[i] = knot.Edge[K]{From: names[r.Intn(len(names))], To: names[r.Intn(len(names))]}
		}
		agree(t, list)
	}
}
