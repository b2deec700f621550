package knot_test

import (
	"cmp"
	"math"
	"math/rand"
	"slices"
	"strconv"
	"testing"

	"seneschal/knot"
)

// edges are those from each first one of two to the second one.
func edges[K cmp.Ordered](ends ...K) []knot.Edge[K] {
	var list []knot.Edge[K]
	for i := 0; i < len(ends); i += 2 {
		list = append(list, knot.Edge[K]{From: ends[i], To: ends[i+1]})
	}
	return list
}

// tells: who is stuck among these edges, and who must give up, in order.
func tells[K cmp.Ordered](t *testing.T, list []knot.Edge[K], stuck, victims []K) {
	t.Helper()
	if got := knot.Stuck(list); !slices.Equal(got, stuck) {
		t.Errorf("Stuck of %v: %v, wanted %v", list, got, stuck)
	}
	if got := knot.Victims(list); !slices.Equal(got, victims) {
		t.Errorf("Victims of %v: %v, wanted %v", list, got, victims)
	}
	var first K
	if len(victims) > 0 {
		first = victims[0]
	}
	if got, ok := knot.Victim(list); got != first || ok != (len(victims) > 0) {
		t.Errorf("Victim of %v: %v, %t, wanted %v", list, got, ok, first)
	}
}

// P15.1, P15.2

func TestNobody(t *testing.T) {
	tells(t, nil, nil, []int(nil))
	tells(t, []knot.Edge[string]{}, nil, nil)
	tells(t, edges(1, 2), nil, nil)
	tells(t, edges(1, 2, 2, 3, 1, 3, 4, 3, 4, 1), nil, nil)
	tells(t, edges("a", "b", "b", "c", "a", "c"), nil, nil)
}

func TestOne(t *testing.T) {
	tells(t, edges(0, 0), []int{0}, []int{0})
	tells(t, edges(5, 5, 5, 5), []int{5}, []int{5})
	tells(t, edges("", ""), []string{""}, []string{""})
	tells(t, edges(-1, -1, 3, -1, -1, 4), []int{-1}, []int{-1})
}

// Who waits for those in a ring, or is waited for by them, isn't in it; nor is who stands between two rings.
func TestBesideARing(t *testing.T) {
	tells(t, edges(1, 2, 2, 1, 3, 1), []int{1, 2}, []int{2})
	tells(t, edges(1, 2, 2, 1, 2, 9), []int{1, 2}, []int{2})
	tells(t, edges(2, 1, 1, 2, 2, 5, 5, 9, 9, 8, 8, 9), []int{1, 2, 8, 9}, []int{9, 2})
	tells(t, edges(9, 8, 8, 9, 8, 5, 5, 1, 1, 2, 2, 1), []int{1, 2, 8, 9}, []int{9, 2})
}

// A ring within another one goes on when the greatest of the outer one is out, or doesn't.
func TestRingsInRings(t *testing.T) {
	tells(t, edges(1, 2, 2, 3, 3, 1), []int{1, 2, 3}, []int{3})
	tells(t, edges(1, 2, 2, 3, 3, 1, 2, 1), []int{1, 2, 3}, []int{3, 2})
	tells(t, edges(1, 2, 2, 3, 3, 1, 3, 2), []int{1, 2, 3}, []int{3})
	tells(t, edges(1, 2, 2, 3, 3, 1, 2, 1, 1, 1), []int{1, 2, 3}, []int{3, 2, 1})
	tells(t, edges(4, 1, 1, 4, 4, 2, 2, 4, 4, 3, 3, 4), []int{1, 2, 3, 4}, []int{4})
	tells(t, edges(1, 2, 2, 1, 1, 3, 3, 1, 1, 4, 4, 1), []int{1, 2, 3, 4}, []int{4, 3, 2})
}

// The greatest goes by its order, not by when it comes.
func TestGreatest(t *testing.T) {
	tells(t, edges(-5, -7, -7, -5), []int{-7, -5}, []int{-5})
	tells(t, edges("b", "ab", "ab", "b"), []string{"ab", "b"}, []string{"b"})
	tells(t, edges("\xff", "\x00", "\x00", "\xff"), []string{"\x00", "\xff"}, []string{"\xff"})
	tells(t, edges[uint8](255, 0, 0, 255, 7, 7), []uint8{0, 7, 255}, []uint8{255, 7})
	tells(t, edges[int8](-128, 127, 127, -128), []int8{-128, 127}, []int8{127})
	tells(t, edges(math.MinInt, math.MaxInt, math.MaxInt, math.MinInt), []int{math.MinInt, math.MaxInt}, []int{math.MaxInt})
	tells(t, edges(0.5, math.Inf(-1), math.Inf(-1), 0.5), []float64{math.Inf(-1), 0.5}, []float64{0.5})
	type name string
	tells(t, edges[name]("x", "y", "y", "x"), []name{"x", "y"}, []name{"y"})
}

// Two zeros of other signs are one name.
func TestZeros(t *testing.T) {
	zero := math.Copysign(0, -1)
	tells(t, edges(1, zero, 0, 1), []float64{0, 1}, []float64{1})
	tells(t, edges(0, zero), []float64{0}, []float64{0})
}

// Of names that don't equal themselves nothing is promised but an end.
func TestNaN(t *testing.T) {
	no := math.NaN()
	r := rand.New(rand.NewSource(18))
	for range 2000 {
		list := make([]knot.Edge[float64], r.Intn(12))
		for i := range list {
			some := []float64{no, no, math.Inf(-1), -1, 0, 1, math.Inf(1)}
			list[i] = knot.Edge[float64]{From: some[r.Intn(7)], To: some[r.Intn(7)]}
		}
		knot.Stuck(list)
		knot.Victim(list)
		knot.Victims(list)
	}
}

// P15.3

// The order of the edges, and how often they come, plays no part.
func TestOrderOfEdges(t *testing.T) {
	r := rand.New(rand.NewSource(19))
	for range 100 {
		list := make([]knot.Edge[string], 3+r.Intn(25))
		for i := range list {
			list[i] = knot.Edge[string]{From: strconv.Itoa(r.Intn(15)), To: strconv.Itoa(r.Intn(15))}
		}
		stuck, victims := knot.Stuck(list), knot.Victims(list)
		for range 20 {
			if len(list) < 100 {
				list = append(list, list[r.Intn(len(list))])
			}
			r.Shuffle(len(list), func(i, j int) { list[i], list[j] = list[j], list[i] })
			tells(t, list, stuck, victims)
		}
	}
}

func TestNobodyIsStuckWithoutThem(t *testing.T) {
	r := rand.New(rand.NewSource(20))
	for k := range 300 {
		list := make([]knot.Edge[int], k*4)
		for i := range list {
			list[i] = knot.Edge[int]{From: r.Intn(k), To: r.Intn(k)}
		}
		victims := knot.Victims(list)
		if !slices.IsSortedFunc(victims, func(a, b int) int { return cmp.Compare(b, a) }) || len(slices.Compact(slices.Clone(victims))) < len(victims) {
			t.Fatalf("victims don't fall: %v", victims)
		}
		if v, _ := knot.Victim(list); len(victims) > 0 && victims[0] != v {
			t.Fatalf("the first one of %v isn't %d", victims, v)
		}
		left := slices.DeleteFunc(list, func(e knot.Edge[int]) bool {
			return slices.Contains(victims, e.From) || slices.Contains(victims, e.To)
		})
		tells(t, left, nil, nil)
	}
}

// Arguments stay as they are, with their spare room; answers share nothing.
func TestMemory(t *testing.T) {
	list := edges(3, 1, 1, 3, 2, 2, 7, 7, 5, 6)
	given := slices.Clone(list)
	for range 2 {
		for _, n := range []int{0, 2, 3, 5} {
			stuck, victims := knot.Stuck(list[:n]), knot.Victims(list[:n])
			knot.Victim(list[:n])
			clear(stuck[:cap(stuck)])
			clear(victims[:cap(victims)])
		}
	}
	if !slices.Equal(list, given) {
		t.Error(list)
	}
	tells(t, list, []int{1, 2, 3, 7}, []int{7, 3, 2})
}

// Long rings and rows, of many names: these take no time that one could tell, and no deep nesting.
func TestLong(t *testing.T) {
	const n = 60000
	var row, ring, ladder, pairs []knot.Edge[int]
	all, falling := make([]int, n), make([]int, n)
	for i := range n {
		all[i], falling[i] = i, n-1-i
		if i > 0 {
			row = append(row, knot.Edge[int]{From: i, To: i - 1})
			ladder = append(ladder, edges(i, i-1, i-1, i)...)
		}
		ring = append(ring, knot.Edge[int]{From: i, To: (i + 1) % n})
		pairs = append(pairs, knot.Edge[int]{From: i, To: i ^ 1})
	}
	var odd []int
	for _, i := range falling {
		if i%2 == 1 {
			odd = append(odd, i)
		}
	}
	for _, c := range []struct {
		list           []knot.Edge[int]
		stuck, victims []int
	}{{row, nil, nil}, {ring, all, []int{n - 1}}, {ladder, all, falling[:n-1]}, {pairs, all, odd}} {
		if got := knot.Stuck(c.list); !slices.Equal(got, c.stuck) {
			t.Errorf("%d are stuck, wanted %d", len(got), len(c.stuck))
		}
		if got := knot.Victims(c.list); !slices.Equal(got, c.victims) {
			t.Errorf("%d victims, wanted %d", len(got), len(c.victims))
		}
	}
}

// The chapter's examples.
func TestExamples(t *testing.T) {
	tells(t, edges(1, 2, 2, 1, 3, 1), []int{1, 2}, []int{2})
	tells(t, edges(4, 4), []int{4}, []int{4})
}
