package season_test

import (
	"math"
	"math/rand/v2"
	"slices"
	"testing"

	"strickle/api"
	"strickle/season"
)

// copied returns prices in memory of their own.
func copied(p api.Prices) api.Prices {
	return api.Prices{Serve: slices.Clone(p.Serve), Leave: slices.Clone(p.Leave), Start: slices.Clone(p.Start)}
}

// priced returns the prices that the package gives for a season, and checks that they are right, with the mark of the cheapest plan as their bound.
func priced(t *testing.T, s api.Season) api.Prices {
	t.Helper()
	number, cost, e := season.Cheapest(s)
	p, f := season.Prices(s)
	mark := 1000000000*number + cost
	if n, ok := areRight(s, p); n != mark || !ok || e != api.OK || f != api.OK {
		t.Fatalf("Prices(%v): %v, bound %d, %v, errors %d, %d, want %d", s, p, n, ok, e, f, mark)
	}
	if n, ok, e := season.CheckPrices(s, p); n != mark || !ok || e != api.OK {
		t.Fatalf("CheckPrices(%v, %v): %d, %v, error %d, want %d", s, p, n, ok, e, mark)
	}
	return p
}

// P7.3: the cheapest plan has the number and the cost of Cheapest, and the prices show it.
func TestP73(t *testing.T) {
	for _, s := range append(small(300, 10, 5), large(30)...) {
		planned(t, s)
		priced(t, s)
	}
	for _, s := range small(150, 7, 3) {
		p := priced(t, s)
		shown, _, _ := season.CheckPrices(s, p)
		for l := range plans(s) {
			if number, cost := sum(s, l); 1000000000*number+cost < shown {
				t.Fatalf("%v: the plan %v has a lesser mark than %d", s, l, shown)
			}
		}
	}
}

// P7.3: no plan has a lesser mark than the bound of any right prices.
func TestP73AnyPrices(t *testing.T) {
	r := rand.New(rand.NewPCG(7, 3))
	near := 0
	for _, s := range append(small(200, 9, 5), large(2)...) {
		best := planned(t, s)
		mark := 1000000000*best.number + best.cost
		right := priced(t, s)
		for range 30 {
			p := copied(right)
			most := pick(r, 3, 1000, 1000000000, 100000000000)
			for _, l := range [][]int{p.Leave, p.Start} {
				for i := range l {
					if r.IntN(3) == 0 {
						l[i] = min(100000000000, max(0, l[i]+r.IntN(2*most+1)-most))
					}
				}
			}
			p.Serve = caps(s, p)
			for i := range p.Serve {
				if r.IntN(4) == 0 {
					p.Serve[i] -= r.IntN(most)
				}
			}
			n, ok, e := season.CheckPrices(s, p)
			if want, is := areRight(s, p); n != want || !ok || !is || e != api.OK {
				t.Fatalf("CheckPrices(%v, %v): %d, %v, error %d, want %d", s, p, n, ok, e, want)
			}
			if n > mark {
				t.Fatalf("%v: the prices %v have the bound %d, a plan has the mark %d", s, p, n, mark)
			}
			if n > mark-100 {
				near++
			}
		}
	}
	if near < 500 {
		t.Errorf("only %d bounds near the mark", near)
	}
}

// G7: prices at the ends of what they may be.
func TestG7CheckPrices(t *testing.T) {
	// The order 3 can follow the order 4 for 10 cells at 7, and the spare 6 can begin both, for none and for 10 cells.
	s := api.Season{Rate: 7, Orders: []api.Order{{Id: 3, From: 5, To: 5, Size: 2, Price: 40, Wood: woodS()}, {Id: 4, From: 1, To: 4, Size: 2, Price: 90, Wood: block(3, 2, 2)}}, Spares: []api.Spare{{Id: 6, Size: 2, Wood: block(2, 3, 2)}}}
	prices := func(a, b, c, d, e int) api.Prices {
		return api.Prices{Serve: []int{a, b}, Leave: []int{c, d}, Start: []int{e}}
	}
	const new, mark = 1000000000, 100000000000
	for _, x := range []struct {
		p     api.Prices
		bound int
	}{
		{prices(0, 0, 0, 0, 0), 0}, {prices(70, 0, 0, 0, 0), 70}, {prices(-5, -6, 0, 0, 0), -11}, {prices(0, 0, 1, 2, 3), -6}, {prices(71, 1, 0, 1, 1), 70}, {prices(71, 0, 0, 1, 1), 69},
		{prices(new+40, new+90, 0, mark, mark), 2*new + 130 - 2*mark}, {prices(new+40, new+90, 0, new, new+90), 40}, {prices(new+40, new+90, mark, new-30, new+90), 70 - mark}, {prices(-mark, -mark, mark, mark, mark), -5 * mark}, {prices(-mark, 0, 0, 0, 0), -mark}, {prices(100, 30, 0, 30, 30), 70},
	} {
		if n, ok, e := season.CheckPrices(s, x.p); n != x.bound || !ok || e != api.OK {
			t.Errorf("CheckPrices(%v): %d, %v, error %d, want %d", x.p, n, ok, e, x.bound)
		}
	}
	for _, p := range []api.Prices{
		prices(71, 0, 0, 0, 0), prices(71, 0, 0, 1, 0), prices(71, 0, 0, 0, 1), prices(0, 1, 0, 0, 0), prices(0, 1, 0, 5, 0), prices(71, 1, 0, 0, 1), prices(71, 1, 9, 0, 1),
		prices(new+41, 0, 0, mark, mark), prices(0, new+91, 0, mark, mark), prices(new+41, new+90, 0, mark, mark), prices(new+40, new+90, mark, new-31, new+90), prices(new+40, new+90, mark, new-30, new+89),
		prices(0, 0, -1, 0, 0), prices(0, 0, 0, -1, 0), prices(0, 0, 0, 0, -1), prices(-50, -50, 0, 0, -1), prices(0, 0, mark+1, 0, 0), prices(0, 0, 0, mark+1, 0), prices(0, 0, 0, 0, mark+1), prices(-mark-1, 0, 0, 0, 0), prices(0, -mark-1, 0, 0, 0),
		prices(math.MinInt, 0, 0, 0, 0), prices(0, math.MaxInt, 0, 0, 0), prices(0, 0, math.MaxInt, 0, 0), prices(0, 0, 0, math.MinInt, 0), prices(0, 0, 0, 0, math.MaxInt), prices(71, 0, 0, math.MaxInt, math.MaxInt), prices(mark, mark, mark, mark, mark),
		{}, {Serve: []int{0, 0}}, {Serve: []int{0, 0}, Leave: []int{0, 0}}, {Leave: []int{0, 0}, Start: []int{0}}, {Serve: []int{0, 0}, Start: []int{0}}, {Serve: []int{0}, Leave: []int{0, 0}, Start: []int{0}}, {Serve: []int{0, 0, 0}, Leave: []int{0, 0}, Start: []int{0}}, {Serve: []int{0, 0}, Leave: []int{0}, Start: []int{0, 0}}, {Serve: []int{0, 0}, Leave: []int{0, 0, 0}, Start: []int{}}, {Serve: []int{0, 0}, Leave: []int{0, 0, 0}, Start: []int{0}}, {Serve: []int{0, 0}, Leave: []int{0, 0}, Start: []int{0, 0}},
	} {
		if n, ok, e := season.CheckPrices(s, p); n != 0 || ok || e != api.OK {
			t.Errorf("CheckPrices(%v): %d, %v, error %d", p, n, ok, e)
		}
	}
	for _, x := range []struct {
		s  api.Season
		p  api.Prices
		ok bool
	}{{api.Season{}, api.Prices{}, true}, {api.Season{}, api.Prices{Serve: []int{}, Start: []int{}}, true}, {api.Season{}, api.Prices{Serve: []int{0}}, false}, {api.Season{}, api.Prices{Start: []int{0}}, false}, {many(0, 2), api.Prices{Start: []int{0, 0}}, true}, {many(0, 2), api.Prices{}, false}} {
		if n, ok, e := season.CheckPrices(x.s, x.p); n != 0 || ok != x.ok || e != api.OK {
			t.Errorf("CheckPrices(%v, %v): %d, %v, error %d", x.s, x.p, n, ok, e)
		}
	}
}

// G7, by the chapter's words: prices that differ a little from right ones.
func TestG7Samples(t *testing.T) {
	r := rand.New(rand.NewPCG(7, 7))
	found := map[bool]int{}
	for _, s := range append(small(100, 9, 5), large(5)...) {
		right := priced(t, s)
		for range 40 {
			p := copied(right)
			l := pick(r, p.Serve, p.Leave, p.Start)
			if len(l) > 0 {
				l[r.IntN(len(l))] += pick(r, 1, -1, 0, 2, -2, 1000, -1000)
			}
			if r.IntN(10) == 0 {
				p.Serve = append(p.Serve, 0)
			}
			want, is := areRight(s, p)
			if n, ok, e := season.CheckPrices(s, p); n != want || ok != is || e != api.OK {
				t.Fatalf("CheckPrices(%v, %v): %d, %v, error %d, want %d, %v", s, p, n, ok, e, want, is)
			}
			found[is]++
		}
	}
	if found[true] < 500 || found[false] < 500 {
		t.Errorf("found: %v", found)
	}
}

// G7: prices of seasons that have few of them.
func TestG7Prices(t *testing.T) {
	for _, x := range []struct {
		s    api.Season
		want api.Prices
	}{
		{api.Season{}, api.Prices{}}, {many(0, 2), api.Prices{Start: []int{0, 0}}},
		{api.Season{Orders: chapter().Orders[:1]}, api.Prices{Serve: []int{1000000060}, Leave: []int{0}}},
		// There is one order and one spare: what serving it would save lies between what a cut costs and what a new pattern does.
		{api.Season{Orders: chapter().Orders[:1], Spares: chapter().Spares[1:]}, api.Prices{Serve: []int{1000000060}, Leave: []int{0}, Start: []int{0}}},
	} {
		p := priced(t, x.s)
		if !slices.Equal(p.Serve, x.want.Serve) || !slices.Equal(p.Leave, x.want.Leave) || !slices.Equal(p.Start, x.want.Start) {
			t.Errorf("Prices(%v): %v, want %v", x.s, p, x.want)
		}
	}
	priced(t, chapter())
}
