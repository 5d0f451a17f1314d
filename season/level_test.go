package season_test

import (
	"math"
	"math/rand/v2"
	"slices"
	"testing"

	"strickle/api"
	"strickle/season"
)

// leveled returns how many levels the package gives for a season, and checks that they are those of the chapter's words, and that the longest list has one order of each of them.
func leveled(t *testing.T, s api.Season) int {
	t.Helper()
	l, e := season.Levels(s)
	if want := levels(s); !sameLists(l, want) || e != api.OK {
		t.Fatalf("Levels(%v): %v, error %d, want %v", s, l, e, want)
	}
	if ok, e := season.CheckLevels(s, l); !ok || e != api.OK {
		t.Fatalf("CheckLevels(%v, %v): %v, error %d", s, l, ok, e)
	}
	long, e := season.Longest(s)
	if len(long) != len(l) || e != api.OK || len(long) > 0 && !isChain(s, anew(long...)) {
		t.Fatalf("Longest(%v): %v, error %d, the levels are %v", s, long, e, l)
	}
	for i, id := range long {
		if !slices.Contains(l[i], id) {
			t.Fatalf("Longest(%v): %v, but %d is not of the level %v", s, long, id, l[i])
		}
	}
	return len(l)
}

// G9, P7.5: no list is longer than Longest, which has one order of each level.
func TestG9LongestOfAllLists(t *testing.T) {
	found := map[int]int{}
	for _, s := range small(400, 10, 1) {
		n := leveled(t, s)
		if most := longest(s); most != n {
			t.Fatalf("%v: %d levels, but the longest list has %d orders", s, n, most)
		}
		found[n]++
	}
	for n := range 5 {
		if found[n] < 10 {
			t.Errorf("only %d seasons have %d levels", found[n], n)
		}
	}
}

func TestG9Levels(t *testing.T) {
	for _, s := range large(20) {
		leveled(t, s)
	}
	apart := many(40, 0)
	for i := range apart.Orders {
		apart.Orders[i].From, apart.Orders[i].To = 0, 100000
	}
	back := many(40, 3)
	slices.Reverse(back.Orders)
	for _, x := range []struct {
		s    api.Season
		want int
	}{{api.Season{}, 0}, {many(0, 20), 0}, {many(1, 0), 1}, {many(40, 0), 40}, {back, 40}, {apart, 1}, {chapter(), 3}} {
		if n := leveled(t, x.s); n != x.want {
			t.Errorf("%v: %d levels, want %d", x.s, n, x.want)
		}
	}
}

func TestG9CheckLevels(t *testing.T) {
	s := chapter()
	for _, l := range [][][]int{{{1, 5}, {2, 3}, {4}}, {{4}, {1, 5}, {3, 2}}, {{1}, {2}, {3}, {4}, {5}}, {{1}, {5, 3, 2}, {4}}, {{}, {1, 5}, {2, 3}, nil, {4}, {}}, {{5, 2}, {3}, {4}, {1}}} {
		if ok, e := season.CheckLevels(s, l); !ok || e != api.OK {
			t.Errorf("CheckLevels(%v): %v, error %d", l, ok, e)
		}
	}
	for _, l := range [][][]int{
		nil, {}, {{}}, {{1, 5}, {2, 3}}, {{1, 5}, {2}, {4}}, {{1, 5}, {2, 3}, {4}, {4}}, {{1, 5}, {2, 3}, {4, 4}}, {{1, 5}, {2, 3, 5}, {4}}, {{1, 5, 5}, {2, 3}, {4}},
		{{1, 5}, {2, 3, 4}}, {{1, 2}, {3, 5}, {4}}, {{2, 1}, {3, 5}, {4}}, {{1, 5}, {4, 2}, {3}}, {{1, 5, 4}, {2, 3}}, {{1, 2, 3, 4, 5}},
		// Numbers that are no orders.
		{{1, 5}, {2, 3}, {4}, {6}}, {{1, 5}, {2, 3}, {4, 6}}, {{1, 5}, {2, 3}, {6}}, {{0, 1, 5}, {2, 3}, {4}}, {{1, 5}, {2, 3}, {4}, {9}}, {{-1}, {1, 5}, {2, 3}, {4}}, {{1, 5}, {2, 3}, {4}, {math.MinInt, math.MaxInt}},
	} {
		if ok, e := season.CheckLevels(s, l); ok || e != api.OK {
			t.Errorf("CheckLevels(%v): %v, error %d", l, ok, e)
		}
	}
	for _, x := range []struct {
		l    [][]int
		want bool
	}{{nil, true}, {[][]int{}, true}, {[][]int{{}, nil}, true}, {[][]int{{1}}, false}} {
		if ok, e := season.CheckLevels(many(0, 2), x.l); ok != x.want || e != api.OK {
			t.Errorf("CheckLevels(%v) of no orders: %v, error %d", x.l, ok, e)
		}
	}
}

// G9, by the chapter's words: levels, and lists that differ a little from them.
func TestG9CheckLevelsSamples(t *testing.T) {
	r := rand.New(rand.NewPCG(7, 9))
	found := map[bool]int{}
	for _, s := range append(small(100, 12, 1), large(5)...) {
		right, _ := season.Levels(s)
		for range 30 {
			l := append(slices.Clone(right), nil)
			for i := range l {
				l[i] = slices.Clone(l[i])
			}
			for range 1 + r.IntN(2) {
				i, j := r.IntN(len(l)), r.IntN(len(l))
				if len(l[i]) == 0 {
					continue
				}
				k := r.IntN(len(l[i]))
				x := l[i][k]
				if r.IntN(6) > 0 {
					l[i] = slices.Delete(l[i], k, k+1)
				}
				if r.IntN(6) > 0 {
					l[j] = append(l[j], x)
				}
			}
			want := areLevels(s, l)
			if ok, e := season.CheckLevels(s, l); ok != want || e != api.OK {
				t.Fatalf("CheckLevels(%v, %v): %v, error %d, want %v", s, l, ok, e, want)
			}
			found[want]++
		}
	}
	if found[true] < 500 || found[false] < 500 {
		t.Errorf("found: %v", found)
	}
}

// P7.5: CheckLevels accepts no fewer lists than there are levels.
func TestP75FewerLevels(t *testing.T) {
	tried := 0
	for _, s := range small(120, 6, 0) {
		n := leveled(t, s)
		ids := orderIds(s)
		var share func(i int, l [][]int)
		share = func(i int, l [][]int) {
			if i == len(ids) {
				tried++
				if ok, e := season.CheckLevels(s, l); ok || e != api.OK {
					t.Fatalf("CheckLevels(%v, %v): %v, error %d, but there are %d levels", s, l, ok, e, n)
				}
				return
			}
			for k := range l {
				more := slices.Clone(l)
				more[k] = append(slices.Clone(l[k]), ids[i])
				share(i+1, more)
			}
		}
		if n > 0 {
			share(0, make([][]int, n-1))
		}
	}
	if tried < 1000 {
		t.Errorf("only %d lists", tried)
	}
}
