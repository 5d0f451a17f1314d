package season_test

import (
	"math"
	"math/rand/v2"
	"slices"
	"testing"

	"strickle/api"
	"strickle/season"
)

func TestG5CheckBar(t *testing.T) {
	s := chapter()
	for _, x := range []struct {
		bar   []int
		bound int
	}{{nil, 0}, {[]int{}, 0}, {[]int{1}, 0}, {[]int{2}, 0}, {[]int{4}, -1}, {[]int{2, 3, 5}, 2}, {[]int{2, 3}, 1}, {[]int{1, 5}, 1}, {[]int{3, 5}, 1}} {
		if n, ok, e := season.CheckBar(s, x.bar); n != x.bound || !ok || e != api.OK {
			t.Errorf("CheckBar(%v): %d, %v, error %d, want %d", x.bar, n, ok, e, x.bound)
		}
	}
	for _, bar := range [][]int{{1, 2}, {1, 3}, {3, 4}, {4, 5}, {2, 3, 4, 5}, {3, 2}, {5, 3, 2}, {2, 3, 3, 5}, {2, 2}, {5, 5}, {2, 3, 5, 5}, {0}, {-1}, {6}, {9}, {0, 2, 3, 5}, {2, 3, 5, 6}, {2, 3, 4}, {math.MinInt, 2, 3, 5}, {2, 3, 5, math.MaxInt}, {8, 9}, slices.Repeat([]int{2}, 1000)} {
		if n, ok, e := season.CheckBar(s, bar); n != 0 || ok || e != api.OK {
			t.Errorf("CheckBar(%v): %d, %v, error %d", bar, n, ok, e)
		}
	}
	if n, ok, e := season.CheckBar(many(0, 20), nil); n != 0 || !ok || e != api.OK {
		t.Errorf("CheckBar of no orders: %d, %v, error %d", n, ok, e)
	}
	if n, ok, e := season.CheckBar(many(40, 20), []int{17}); n != -19 || !ok || e != api.OK {
		t.Errorf("CheckBar with 20 spares: %d, %v, error %d", n, ok, e)
	}
}

func TestG5Starters(t *testing.T) {
	for _, x := range []struct{ orders, want []int }{{nil, nil}, {[]int{2, 3, 5}, []int{9}}, {[]int{4}, []int{8, 9}}, {[]int{1, 2}, []int{9}}, {[]int{5, 4, 1}, []int{8, 9}}, {[]int{4, 4, 4}, []int{8, 9}}, {slices.Repeat([]int{5, 3, 5}, 100), []int{9}}} {
		if l, e := season.Starters(chapter(), x.orders); !slices.Equal(l, x.want) || e != api.OK {
			t.Errorf("Starters(%v): %v, error %d, want %v", x.orders, l, e, x.want)
		}
	}
	for _, id := range append(noIds(), 8, 9) {
		for _, orders := range [][]int{{id}, {2, 3, id}, {id, 2, 3}, {id, id}} {
			if l, e := season.Starters(chapter(), orders); len(l) > 0 || e != api.ErrNone {
				t.Errorf("Starters(%v): %v, error %d", orders, l, e)
			}
		}
	}
	want := make([]int, 20)
	for i := range want {
		want[i] = 1 + i
	}
	s := many(40, 20)
	slices.Reverse(s.Spares)
	if l, e := season.Starters(s, []int{40, 1}); !slices.Equal(l, want) || e != api.OK {
		t.Errorf("Starters: %v, error %d", l, e)
	}
}

// G5, by the chapter's words: sets of orders, and lists that differ a little from a bar.
func TestG5Samples(t *testing.T) {
	r := rand.New(rand.NewPCG(7, 5))
	found := map[bool]int{}
	for _, s := range append(small(60, 9, 5), large(6)...) {
		ids := orderIds(s)
		bar, _ := season.Bar(s)
		for range 60 {
			var l []int
			if r.IntN(2) == 0 {
				l = slices.Clone(bar)
			}
			for range r.IntN(4) {
				if len(ids) > 0 {
					l = append(l, pick(r, ids...))
				}
			}
			if want := starters(s, l); true {
				if m, e := season.Starters(s, l); !slices.Equal(m, want) || e != api.OK {
					t.Fatalf("Starters(%v, %v): %v, error %d, want %v", s, l, m, e, want)
				}
			}
			if r.IntN(8) > 0 {
				slices.Sort(l)
			}
			if r.IntN(3) > 0 {
				l = slices.Compact(l)
			}
			if r.IntN(12) == 0 {
				l = append(l, 999)
			}
			want, most := isBar(s, l), 0
			if want {
				most = bound(s, l)
			}
			if n, ok, e := season.CheckBar(s, l); n != most || ok != want || e != api.OK {
				t.Fatalf("CheckBar(%v, %v): %d, %v, error %d, want %d, %v", s, l, n, ok, e, most, want)
			}
			found[want]++
		}
	}
	if found[true] < 500 || found[false] < 500 {
		t.Errorf("found: %v", found)
	}
}

// barred returns the bar that the package gives for a season, and checks that its bound is the least number.
func barred(t *testing.T, s api.Season) []int {
	t.Helper()
	bar, e := season.Bar(s)
	n, f := season.Least(s)
	if !isBar(s, bar) || bound(s, bar) != n || e != api.OK || f != api.OK {
		t.Fatalf("Bar(%v): %v, Least: %d, errors %d, %d", s, bar, n, e, f)
	}
	if m, ok, e := season.CheckBar(s, bar); m != n || !ok || e != api.OK {
		t.Fatalf("CheckBar(%v, %v): %d, %v, error %d, want %d", s, bar, m, ok, e, n)
	}
	return bar
}

func TestG5Bar(t *testing.T) {
	for _, s := range append(small(300, 10, 5), many(40, 0), many(40, 20), many(0, 20)) {
		barred(t, s)
	}
	if bar := barred(t, chapter()); !slices.Equal(bar, []int{2, 3, 5}) {
		t.Errorf("Bar: %v", bar)
	}
}

// P7.2: the least number is that of a plan, and the bound of a bar; no plan has a lesser number than the bound of any bar.
func TestP72(t *testing.T) {
	several := 0
	for _, s := range small(250, 7, 3) {
		number := planned(t, s).number
		barred(t, s)
		few, most := math.MaxInt, math.MinInt
		for l := range plans(s) {
			n, _ := sum(s, l)
			few = min(few, n)
		}
		for l := range bars(s) {
			most = max(most, bound(s, l))
		}
		if few != number || most != number {
			t.Fatalf("%v: Least %d, the least number of a plan is %d, the greatest bound of a bar %d", s, number, few, most)
		}
		if number > 1 && len(s.Spares) > 0 {
			several++
		}
	}
	if several < 50 {
		t.Errorf("only %d seasons with several new patterns", several)
	}
	for _, s := range large(30) {
		planned(t, s)
		barred(t, s)
	}
}
