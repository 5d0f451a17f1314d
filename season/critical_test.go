package season_test

import (
	"fmt"
	"math/rand/v2"
	"slices"
	"testing"

	"strickle/api"
	"strickle/season"
)

// numberOf returns the least number of a season.
func numberOf(t *testing.T, s api.Season, e api.Errno) int {
	t.Helper()
	n, f := season.Least(s)
	if e != api.OK || f != api.OK {
		t.Fatalf("%v: errors %d, %d", s, e, f)
	}
	return n
}

// lessOf returns the orders without which the least number is less, and the spares without which it is not greater, each season planned anew; and checks P7.6 of them.
func lessOf(t *testing.T, s api.Season) (critical, idle []int) {
	t.Helper()
	n := numberOf(t, s, api.OK)
	for _, id := range orderIds(s) {
		x, e := season.Without(s, id)
		switch numberOf(t, x, e) {
		case n - 1:
			critical = append(critical, id)
		case n:
		default:
			t.Fatalf("%v: Least without %d", s, id)
		}
	}
	for _, id := range spareIds(s) {
		x, e := season.WithoutSpare(s, id)
		switch numberOf(t, x, e) {
		case n:
			idle = append(idle, id)
		case n + 1:
		default:
			t.Fatalf("%v: Least without the spare %d", s, id)
		}
	}
	return critical, idle
}

// G8, P7.6: what is critical and what is idle; without an order the least number is the same or one less, without a spare the same or one more.
func TestG8CriticalAndIdle(t *testing.T) {
	found := map[string]int{}
	for _, s := range append(small(250, 12, 6), large(4)...) {
		critical, idle := lessOf(t, s)
		if l, e := season.Critical(s); !slices.Equal(l, critical) || e != api.OK {
			t.Fatalf("Critical(%v): %v, error %d, want %v", s, l, e, critical)
		}
		if l, e := season.Idle(s); !slices.Equal(l, idle) || e != api.OK {
			t.Fatalf("Idle(%v): %v, error %d, want %v", s, l, e, idle)
		}
		found["critical"] += len(critical)
		found["beside"] += len(s.Orders) - len(critical)
		found["idle"] += len(idle)
		found["busy"] += len(s.Spares) - len(idle)
	}
	for _, what := range []string{"critical", "beside", "idle", "busy"} {
		if found[what] < 100 {
			t.Errorf("only %d are %s", found[what], what)
		}
	}
}

// G8: all, or none of them.
func TestG8All(t *testing.T) {
	apart := many(40, 20)
	for i := range apart.Orders {
		apart.Orders[i].From, apart.Orders[i].To = 0, 100000
	}
	all := many(40, 20)
	for _, x := range []struct {
		s              api.Season
		critical, idle []int
	}{{api.Season{}, nil, nil}, {many(0, 20), nil, spareIds(all)}, {many(1, 0), []int{1}, nil}, {many(1, 1), nil, nil}, {many(2, 0), nil, nil}, {many(40, 20), nil, spareIds(all)}, {apart, orderIds(all), nil}} {
		critical, e := season.Critical(x.s)
		idle, f := season.Idle(x.s)
		if !slices.Equal(critical, x.critical) || !slices.Equal(idle, x.idle) || e != api.OK || f != api.OK {
			t.Errorf("%v: Critical %v, Idle %v, errors %d, %d", x.s, critical, idle, e, f)
		}
	}
}

// said is all that the package says of a season, but for its prices.
func said(s api.Season) string {
	least, _ := season.Least(s)
	plan, _ := season.Plan(s)
	number, cost, _ := season.Cheapest(s)
	cheap, _ := season.CheapPlan(s)
	bar, _ := season.Bar(s)
	starters, _ := season.Starters(s, orderIds(s))
	critical, _ := season.Critical(s)
	idle, _ := season.Idle(s)
	long, _ := season.Longest(s)
	levels, _ := season.Levels(s)
	var reach [][]int
	for _, id := range spareIds(s) {
		l, _ := season.Reach(s, id)
		reach = append(reach, l)
	}
	return fmt.Sprint(least, plan, number, cost, cheap, bar, starters, critical, idle, long, levels, reach)
}

// pricesOf are the prices of each order and of each spare, by their Ids.
func pricesOf(t *testing.T, s api.Season) string {
	t.Helper()
	p := priced(t, s)
	orders, spares := map[int][2]int{}, map[int]int{}
	for i, x := range s.Orders {
		orders[x.Id] = [2]int{p.Serve[i], p.Leave[i]}
	}
	for k, x := range s.Spares {
		spares[x.Id] = p.Start[k]
	}
	return fmt.Sprint(orders, spares)
}

// P7.6: with the orders and the spares in other places nothing changes, not even where it is not said which plan, bar or prices there are.
func TestP76Shuffled(t *testing.T) {
	r := rand.New(rand.NewPCG(7, 6))
	for _, s := range append(small(150, 10, 5), large(3)...) {
		x := api.Season{Orders: slices.Clone(s.Orders), Spares: slices.Clone(s.Spares), Rate: s.Rate}
		r.Shuffle(len(x.Orders), func(i, j int) { x.Orders[i], x.Orders[j] = x.Orders[j], x.Orders[i] })
		r.Shuffle(len(x.Spares), func(i, j int) { x.Spares[i], x.Spares[j] = x.Spares[j], x.Spares[i] })
		if a, b := planned(t, s), planned(t, x); a != b {
			t.Fatalf("%v: %v, shuffled %v", s, a, b)
		}
		if a, b := said(s), said(x); a != b {
			t.Fatalf("%v: %s, shuffled %s", s, a, b)
		}
		if a, b := pricesOf(t, s), pricesOf(t, x); a != b {
			t.Fatalf("%v: %s, shuffled %s", s, a, b)
		}
	}
}

// P7.7: a critical order is in each bar whose bound is the least number; a spare that is not idle can begin an order of each bar that shows the least number without it.
func TestP77(t *testing.T) {
	orders, spares := 0, 0
	for _, s := range small(300, 8, 4) {
		n := numberOf(t, s, api.OK)
		critical, e := season.Critical(s)
		idle, f := season.Idle(s)
		if e != api.OK || f != api.OK {
			t.Fatalf("%v: errors %d, %d", s, e, f)
		}
		for bar := range bars(s) {
			for _, id := range critical {
				if bound(s, bar) == n {
					orders++
					if !slices.Contains(bar, id) {
						t.Fatalf("%v: the critical order %d is not in the bar %v", s, id, bar)
					}
				}
			}
			for _, x := range s.Spares {
				if slices.Contains(idle, x.Id) {
					continue
				}
				rest, e := season.WithoutSpare(s, x.Id)
				if bound(rest, bar) != numberOf(t, rest, e) {
					continue
				}
				spares++
				if !slices.Contains(starters(s, bar), x.Id) {
					t.Fatalf("%v: the spare %d can begin no order of the bar %v", s, x.Id, bar)
				}
			}
		}
	}
	if orders < 200 || spares < 200 {
		t.Errorf("only %d orders and %d spares", orders, spares)
	}
}
