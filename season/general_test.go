package season_test

import (
	"fmt"
	"slices"
	"testing"

	"strickle/api"
	"strickle/season"
	"strickle/solid"
)

// P7.1: the chapter's table of examples, of what can follow what.
func TestP71Examples(t *testing.T) {
	s := chapter()
	for x, want := range map[[2]int]bool{{1, 2}: true, {1, 3}: true, {3, 4}: true, {2, 4}: true, {5, 3}: false} {
		if ok, e := season.Follows(s, x[0], x[1]); ok != want || e != api.OK {
			t.Errorf("Follows(%v): %v, error %d", x, ok, e)
		}
	}
	for x, want := range map[[2]int]bool{{9, 5}: true, {8, 4}: true, {8, 3}: false} {
		if ok, e := season.Begins(s, x[0], x[1]); ok != want || e != api.OK {
			t.Errorf("Begins(%v): %v, error %d", x, ok, e)
		}
	}
	for spare, want := range map[int][]int{9: {1, 2, 3, 4, 5}, 8: {4}} {
		if l, e := season.Reach(s, spare); !slices.Equal(l, want) || e != api.OK {
			t.Errorf("Reach(%d): %v, error %d", spare, l, e)
		}
	}
	if m, ok, e := season.Place(s, 1, 3); !ok || e != api.OK || !solid.CheckFit(woodL(), woodV(), m) {
		t.Errorf("Place(1, 3): %v, %v, error %d", m, ok, e)
	}
}

// P7.1: the chapter's table of examples, of plans.
func TestP71ExamplesOfPlans(t *testing.T) {
	s := chapter()
	if x := planned(t, s); x != (totals{2, 66}) {
		t.Errorf("Cheapest: %v", x)
	}
	for _, x := range []struct {
		l            []api.Chain
		number, cost int
		ok           bool
	}{{[]api.Chain{of(9, 1, 2), anew(3, 4), anew(5)}, 2, 69, true}, {[]api.Chain{of(9, 1, 2), of(8, 4), anew(3), anew(5)}, 2, 66, true}, {[]api.Chain{of(9, 1, 2), of(8, 3), anew(4), anew(5)}, 0, 0, false}} {
		n, ok, e := season.CheckPlan(s, x.l)
		cost, f := season.Cost(s, x.l)
		if n != x.number || ok != x.ok || e != api.OK || cost != x.cost || (f == api.OK) != x.ok {
			t.Errorf("%v: %d, %v, %d, errors %d, %d", x.l, n, ok, cost, e, f)
		}
	}
	if n, ok, e := season.CheckBar(s, []int{2, 3, 5}); n != 2 || !ok || e != api.OK {
		t.Errorf("CheckBar: %d, %v, error %d", n, ok, e)
	}
	if l, e := season.Starters(s, []int{2, 3, 5}); !slices.Equal(l, []int{9}) || e != api.OK {
		t.Errorf("Starters: %v, error %d", l, e)
	}
	if n, ok, e := season.CheckBar(s, []int{1, 2}); n != 0 || ok || e != api.OK {
		t.Errorf("CheckBar: %d, %v, error %d", n, ok, e)
	}
	if l, e := season.Critical(s); !slices.Equal(l, []int{2, 3, 5}) || e != api.OK {
		t.Errorf("Critical: %v, error %d", l, e)
	}
	if l, e := season.Idle(s); !slices.Equal(l, []int{8}) || e != api.OK {
		t.Errorf("Idle: %v, error %d", l, e)
	}
	if l, e := season.Longest(s); !slices.Equal(l, []int{1, 2, 4}) && !slices.Equal(l, []int{1, 3, 4}) || e != api.OK {
		t.Errorf("Longest: %v, error %d", l, e)
	}
	if l, e := season.Levels(s); !sameLists(l, [][]int{{1, 5}, {2, 3}, {4}}) || e != api.OK {
		t.Errorf("Levels: %v, error %d", l, e)
	}
	bare := s
	bare.Spares = nil
	order, e := season.Without(s, 5)
	spare, f := season.WithoutSpare(s, 9)
	for i, want := range []int{3, 1, 3} {
		x := []api.Season{bare, order, spare}[i]
		if n, g := season.Least(x); n != want || e != api.OK || f != api.OK || g != api.OK {
			t.Errorf("Least(%v): %d, errors %d, %d, %d, want %d", x, n, e, f, g, want)
		}
	}
}

// result is how a call ended, and whether all of its other results are zero.
type result struct {
	e    api.Errno
	zero bool
}

// callPairs calls each function that asks for Ids with some.
func callPairs(s api.Season, spare, order, next int) map[string]result {
	l := map[string]result{}
	ok, e := season.Follows(s, order, next)
	l["Follows"] = result{e, !ok}
	ok, e = season.Begins(s, spare, order)
	l["Begins"] = result{e, !ok}
	ids, e := season.Reach(s, spare)
	l["Reach"] = result{e, len(ids) == 0}
	m, ok, e := season.Place(s, order, next)
	l["Place"] = result{e, m == api.Motion{} && !ok}
	ids, e = season.Starters(s, []int{order, next})
	l["Starters"] = result{e, len(ids) == 0}
	x, e := season.Without(s, order)
	l["Without"] = result{e, noSeason(x)}
	x, e = season.WithoutSpare(s, spare)
	l["WithoutSpare"] = result{e, noSeason(x)}
	return l
}

// callAll calls each function of a season, with things that are right for the chapter's one.
func callAll(s api.Season, spare, order, next int) map[string]result {
	l := callPairs(s, spare, order, next)
	plan := []api.Chain{of(9, 1, 2), anew(3, 4), anew(5)}
	n, e := season.Least(s)
	l["Least"] = result{e, n == 0}
	chains, e := season.Plan(s)
	l["Plan"] = result{e, len(chains) == 0}
	n, ok, e := season.CheckPlan(s, plan)
	l["CheckPlan"] = result{e, n == 0 && !ok}
	ids, e := season.Bar(s)
	l["Bar"] = result{e, len(ids) == 0}
	n, ok, e = season.CheckBar(s, []int{2, 3, 5})
	l["CheckBar"] = result{e, n == 0 && !ok}
	n, e = season.Cost(s, plan)
	l["Cost"] = result{e, n == 0}
	n, cost, e := season.Cheapest(s)
	l["Cheapest"] = result{e, n == 0 && cost == 0}
	chains, e = season.CheapPlan(s)
	l["CheapPlan"] = result{e, len(chains) == 0}
	p, e := season.Prices(s)
	l["Prices"] = result{e, len(p.Serve)+len(p.Leave)+len(p.Start) == 0}
	n, ok, e = season.CheckPrices(s, api.Prices{Serve: []int{0, 1, 0, 0, 0}, Leave: make([]int, 5), Start: make([]int, 2)})
	l["CheckPrices"] = result{e, n == 0 && !ok}
	ids, e = season.Critical(s)
	l["Critical"] = result{e, len(ids) == 0}
	ids, e = season.Idle(s)
	l["Idle"] = result{e, len(ids) == 0}
	ids, e = season.Longest(s)
	l["Longest"] = result{e, len(ids) == 0}
	levels, e := season.Levels(s)
	l["Levels"] = result{e, len(levels) == 0}
	ok, e = season.CheckLevels(s, [][]int{{1, 5}, {2, 3}, {4}})
	l["CheckLevels"] = result{e, !ok}
	return l
}

// P7.1: functions with a season first return the error of CheckSeason, and nothing else then; then ErrNone.
func TestP71Wrong(t *testing.T) {
	for _, s := range wrongSeasons() {
		for _, x := range [][3]int{{9, 1, 2}, {77, 78, 79}, {0, 0, 0}} {
			for name, r := range callAll(s, x[0], x[1], x[2]) {
				if r.e != api.ErrArg || !r.zero {
					t.Fatalf("%s(%v): error %d, other results zero: %v", name, s, r.e, r.zero)
				}
			}
		}
	}
	for name, r := range callPairs(chapter(), 77, 78, 79) {
		if r.e != api.ErrNone || !r.zero {
			t.Errorf("%s: error %d, other results zero: %v", name, r.e, r.zero)
		}
	}
	for name, r := range callAll(chapter(), 9, 1, 2) {
		if r.e != api.OK || r.zero {
			t.Errorf("%s: error %d, other results zero: %v", name, r.e, r.zero)
		}
	}
}

// behind returns a list with room behind its elements, and the whole of its memory.
func behind[T any](l []T, x T) (short, whole []T) {
	whole = append(slices.Clip(slices.Clone(l)), x, x)
	return whole[:len(l)], whole
}

// P7.1 with rule R3: arguments stay as they are, also behind their ends.
func TestP71ArgumentsStay(t *testing.T) {
	s := chapter()
	orders, allOrders := behind(s.Orders, api.Order{Id: 99})
	spares, allSpares := behind(s.Spares, api.Spare{Id: 99})
	bar, allBar := behind([]int{2, 3, 5}, 99)
	mixed, allMixed := behind([]int{5, 1, 5, 3}, 99)
	first, allFirst := behind([]int{1, 2}, 99)
	plan, allPlan := behind([]api.Chain{of(9, first...), anew(3, 4), anew(5)}, of(99))
	level, allLevel := behind([]int{1, 5}, 99)
	levels, allLevels := behind([][]int{level, {2, 3}, {4}}, []int{99})
	p := priced(t, s)
	leave, allLeave := behind(p.Leave, 99)
	p.Leave = leave
	kept := func() string {
		return fmt.Sprint(allOrders, allSpares, allBar, allMixed, allFirst, allPlan, allLevel, allLevels, p.Serve, allLeave, p.Start)
	}
	before := kept()
	s.Orders, s.Spares = orders, spares
	for _, x := range s.Orders {
		for _, y := range s.Spares {
			callAll(s, y.Id, x.Id, x.Id)
		}
	}
	season.CheckSeason(s)
	season.Starters(s, mixed)
	season.CheckPlan(s, plan)
	season.Cost(s, plan)
	season.CheckBar(s, bar)
	season.CheckPrices(s, p)
	season.CheckLevels(s, levels)
	if after := kept(); after != before {
		t.Errorf("the arguments are %s now, not %s", after, before)
	}
}

// overwrite writes over a list and behind its end.
func overwrite[T any](l []T, x T) {
	l = l[:cap(l)]
	for i := range l {
		l[i] = x
	}
}

// P7.1 with rules R3 and R4: what is written into a result changes no argument, no part of the same result, and no later one.
func TestP71NewMemory(t *testing.T) {
	s := chapter()
	for _, x := range s.Orders {
		if y, e := season.Without(s, x.Id); e == api.OK {
			overwrite(y.Orders, api.Order{Id: 99})
			overwrite(y.Spares, api.Spare{Id: 99})
		}
	}
	for _, x := range s.Spares {
		if y, e := season.WithoutSpare(s, x.Id); e == api.OK {
			overwrite(y.Orders, api.Order{Id: 99})
			overwrite(y.Spares, api.Spare{Id: 99})
		}
	}
	if !sameSeason(s, chapter()) {
		t.Fatalf("the season is %v now", s)
	}
	for _, s := range append(large(3), chapter()) {
		say := func() string {
			plan, _ := season.Plan(s)
			cheap, _ := season.CheapPlan(s)
			bar, _ := season.Bar(s)
			prices, _ := season.Prices(s)
			critical, _ := season.Critical(s)
			idle, _ := season.Idle(s)
			long, _ := season.Longest(s)
			levels, _ := season.Levels(s)
			reach, _ := season.Reach(s, s.Spares[0].Id)
			starters, _ := season.Starters(s, bar)
			text := fmt.Sprint(plan, cheap, bar, prices, critical, idle, long, levels, reach, starters)
			for i := range plan {
				overwrite(plan[i].Orders, -1)
				overwrite(levels[min(i, len(levels)-1)], -1)
				if i+1 < len(plan) && slices.Contains(plan[i+1].Orders, -1) || i+1 < len(levels) && slices.Contains(levels[i+1], -1) {
					t.Fatalf("%v: %v, %v", s, plan, levels)
				}
			}
			for _, l := range [][]int{bar, prices.Serve, critical, idle, long, reach, starters} {
				overwrite(l, -1)
			}
			if slices.Contains(prices.Leave, -1) || slices.Contains(prices.Start, -1) {
				t.Fatalf("%v: %v", s, prices)
			}
			overwrite(prices.Leave, -2)
			if slices.Contains(prices.Start, -2) {
				t.Fatalf("%v: %v", s, prices)
			}
			overwrite(prices.Start, -1)
			overwrite(cheap, of(-1))
			return text
		}
		if first, again := say(), say(); first != again {
			t.Errorf("%v: %s, then %s", s, first, again)
		}
	}
}

// T7: the least number of new patterns is the greatest bound of a bar; the cheapest plan with this number is shown by prices; the longest service has one order of each level.
func TestT7(t *testing.T) {
	for _, s := range append(small(60, 14, 6), large(15)...) {
		n := planned(t, s).number
		if m := bound(s, barred(t, s)); m != n {
			t.Fatalf("%v: Least %d, but the bound is %d", s, n, m)
		}
		priced(t, s)
		leveled(t, s)
	}
}
