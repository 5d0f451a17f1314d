package season_test

import (
	"math"
	"math/rand/v2"
	"slices"
	"testing"

	"strickle/api"
	"strickle/season"
)

// totals are the number and the cost of a plan.
type totals struct{ number, cost int }

// planned returns the numbers and the costs that the package gives for a season, and checks that all that it says of its plans is so.
func planned(t *testing.T, s api.Season) totals {
	t.Helper()
	n, e := season.Least(s)
	number, cost, f := season.Cheapest(s)
	if n != number || e != api.OK || f != api.OK {
		t.Fatalf("%v: Least %d, Cheapest %d, %d, errors %d, %d", s, n, number, cost, e, f)
	}
	l, e := season.Plan(s)
	if !isPlan(s, l) || e != api.OK {
		t.Fatalf("Plan(%v): %v, error %d", s, l, e)
	}
	if n, _ := sum(s, l); n != number {
		t.Fatalf("Plan(%v): %v, the number is %d, not %d", s, l, n, number)
	}
	if n, ok, e := season.CheckPlan(s, l); n != number || !ok || e != api.OK {
		t.Fatalf("CheckPlan(%v, %v): %d, %v, error %d", s, l, n, ok, e)
	}
	l, e = season.CheapPlan(s)
	if !isPlan(s, l) || e != api.OK {
		t.Fatalf("CheapPlan(%v): %v, error %d", s, l, e)
	}
	if n, c := sum(s, l); n != number || c != cost {
		t.Fatalf("CheapPlan(%v): %v, with %d and %d, not %d and %d", s, l, n, c, number, cost)
	}
	if c, e := season.Cost(s, l); c != cost || e != api.OK {
		t.Fatalf("Cost(%v, %v): %d, error %d", s, l, c, e)
	}
	return totals{number, cost}
}

// G4, G6: the least number and the least cost are those of all plans.
func TestG4LeastOfAllPlans(t *testing.T) {
	found := map[int]int{}
	for _, s := range small(700, 7, 3) {
		number, cost := least(s)
		if x := planned(t, s); x != (totals{number, cost}) {
			t.Fatalf("%v: %v, but the best one of all plans has %d and %d", s, x, number, cost)
		}
		found[number]++
	}
	for n := range 6 {
		if found[n] < 20 {
			t.Errorf("only %d seasons need %d new patterns", found[n], n)
		}
	}
}

// G4: seasons with known numbers.
func TestG4Least(t *testing.T) {
	apart := many(40, 20)
	for i := range apart.Orders {
		apart.Orders[i].From, apart.Orders[i].To = 0, 100000
	}
	other := many(40, 20)
	for i := range other.Spares {
		other.Spares[i].Size++
	}
	for _, x := range []struct {
		s            api.Season
		number, cost int
	}{{api.Season{}, 0, 0}, {many(0, 20), 0, 0}, {many(1, 0), 1, 0}, {many(1, 1), 0, 0}, {many(40, 0), 1, 0}, {many(40, 20), 0, 0}, {apart, 20, 0}, {other, 1, 0}} {
		if n := planned(t, x.s); n != (totals{x.number, x.cost}) {
			t.Errorf("%v: %v, want %d, %d", x.s, n, x.number, x.cost)
		}
	}
}

// G6: the least number goes ahead of the least cost, and among plans with it the least cost decides.
func TestG6Cheapest(t *testing.T) {
	at := func(id, from, to, price int, wood api.Solid) api.Order {
		return api.Order{Id: id, From: from, To: to, Size: 1, Price: price, Wood: wood}
	}
	// To cut 511 cells away costs 511000, a new pattern nothing: all the same there is one new pattern alone.
	dear := api.Season{Rate: 1000, Orders: []api.Order{at(1, 0, 0, 0, block(8, 8, 8)), at(2, 1, 1, 0, block(1, 1, 1))}}
	if x := planned(t, dear); x != (totals{1, 511000}) {
		t.Errorf("a dear cut: %v", x)
	}
	// The most that 40 orders can cost.
	most := many(40, 0)
	for i := range most.Orders {
		most.Orders[i].From, most.Orders[i].To, most.Orders[i].Price = 0, 0, 1000000
	}
	if x := planned(t, most); x != (totals{40, 40000000}) {
		t.Errorf("dear orders: %v", x)
	}
	// Of two orders that could begin, the cheaper one does; of two spares, the one from which less is cut away is used.
	s := api.Season{Rate: 2, Orders: []api.Order{at(1, 0, 0, 50, woodM()), at(2, 0, 0, 40, woodM()), at(3, 5, 5, 1, woodM())}, Spares: []api.Spare{{Id: 1, Size: 1, Wood: woodL()}, {Id: 2, Size: 1, Wood: block(3, 3, 1)}}}
	if x := planned(t, s); x != (totals{0, 2*2 + 2*5}) {
		t.Errorf("two spares: %v", x)
	}
	s.Spares = s.Spares[1:]
	if x := planned(t, s); x != (totals{1, 2*5 + 40}) {
		t.Errorf("one spare: %v", x)
	}
	s.Rate = 0
	if x := planned(t, s); x != (totals{1, 40}) {
		t.Errorf("cuts for nothing: %v", x)
	}
	// A spare is left alone where it saves nothing: the order 3 follows for nothing, or begins with the spare for more.
	s = api.Season{Rate: 9, Orders: []api.Order{at(1, 0, 0, 5, woodM()), at(3, 5, 5, 1, woodM())}, Spares: []api.Spare{{Id: 4, Size: 1, Wood: woodM()}, {Id: 5, Size: 1, Wood: woodL()}}}
	if l, e := season.CheapPlan(s); len(l) != 1 || l[0].Spare != 4 || !slices.Equal(l[0].Orders, []int{1, 3}) || e != api.OK {
		t.Errorf("CheapPlan: %v, error %d", l, e)
	}
}

// wrongLists are lists that are no plans of the chapter's season.
func wrongLists() [][]api.Chain {
	return [][]api.Chain{
		nil, {}, {{}}, {anew()}, {of(9)}, {of(9, 1, 2), anew(3, 4)}, {anew(1), anew(2), anew(3), anew(4)},
		// Not each order once.
		{of(9, 1, 2), anew(3, 4), anew(5), anew(5)}, {of(9, 1, 2), anew(3, 4), anew(4), anew(5)}, {of(9, 1, 2), anew(1), anew(3, 4), anew(5)}, {of(9, 1, 1, 2), anew(3, 4), anew(5)},
		// Chains without orders.
		{of(9, 1, 2), anew(3, 4), anew(5), anew()}, {of(9, 1, 2), anew(3, 4), anew(5), of(8)}, {{}, of(9, 1, 2), anew(3, 4), anew(5)}, {of(9), anew(1, 2), anew(3, 4), anew(5)},
		// Spares that cannot begin, are there twice, or not at all.
		{of(9, 1, 2), of(8, 3), anew(4), anew(5)}, {of(9, 1, 2), of(9, 3, 4), anew(5)}, {of(9, 1, 2), anew(3, 4), of(9, 5)}, {of(8, 1, 2), anew(3, 4), anew(5)}, {of(7, 1, 2), anew(3, 4), anew(5)}, {of(-1, 1, 2), anew(3, 4), anew(5)}, {of(1, 1, 2), anew(3, 4), anew(5)}, {of(9, 1, 2), anew(3, 4), of(math.MinInt, 5)}, {of(9, 1, 2), anew(3, 4), of(math.MaxInt, 5)},
		// Orders that cannot follow.
		{of(9, 1, 2, 3, 4), anew(5)}, {of(9, 1, 2), anew(5, 3, 4)}, {of(9, 1, 2), anew(4, 3), anew(5)}, {of(9, 2, 1), anew(3, 4), anew(5)}, {of(9, 1, 2), anew(3, 5, 4)}, {of(9, 1, 5), anew(2), anew(3, 4)},
		// Orders that are not there.
		{of(9, 1, 2), anew(3, 4), anew(6)}, {of(9, 1, 2), anew(3, 4), anew(5), anew(6)}, {of(9, 1, 2), anew(3, 4), anew(5, 6)}, {of(9, 1, 2), anew(3, 4), anew(6, 5)}, {of(9, 1, 2), anew(3, 4), anew(5, 0)}, {anew(9, 1, 2), anew(3, 4), anew(5)}, {of(9, math.MaxInt, 1, 2), anew(3, 4), anew(5)}, {of(9, 1, 2, math.MinInt), anew(3, 4), anew(5)},
	}
}

func TestG4CheckPlan(t *testing.T) {
	s := chapter()
	for _, x := range []struct {
		l            []api.Chain
		number, cost int
	}{
		{[]api.Chain{of(9, 1, 2), anew(3, 4), anew(5)}, 2, 69}, {[]api.Chain{anew(5), anew(3, 4), of(9, 1, 2)}, 2, 69}, {[]api.Chain{of(9, 1, 2), of(8, 4), anew(3), anew(5)}, 2, 66}, {[]api.Chain{anew(1), anew(2), anew(3), anew(4), anew(5)}, 5, 180},
		{[]api.Chain{anew(1, 2, 4), anew(3), anew(5)}, 3, 132}, {[]api.Chain{anew(1, 4), anew(2), anew(3), of(9, 5)}, 3, 151}, {[]api.Chain{of(9, 4), anew(1, 3), anew(2), anew(5)}, 3, 151},
	} {
		if n, ok, e := season.CheckPlan(s, x.l); n != x.number || !ok || e != api.OK {
			t.Errorf("CheckPlan(%v): %d, %v, error %d, want %d", x.l, n, ok, e, x.number)
		}
		if n, e := season.Cost(s, x.l); n != x.cost || e != api.OK {
			t.Errorf("Cost(%v): %d, error %d, want %d", x.l, n, e, x.cost)
		}
	}
	for _, l := range wrongLists() {
		if n, ok, e := season.CheckPlan(s, l); n != 0 || ok || e != api.OK {
			t.Errorf("CheckPlan(%v): %d, %v, error %d", l, n, ok, e)
		}
		if n, e := season.Cost(s, l); n != 0 || e != api.ErrPlan {
			t.Errorf("Cost(%v): %d, error %d", l, n, e)
		}
	}
	for _, l := range [][]api.Chain{nil, {}} {
		n, ok, e := season.CheckPlan(many(0, 3), l)
		cost, f := season.Cost(many(0, 3), l)
		if n != 0 || !ok || cost != 0 || e != api.OK || f != api.OK {
			t.Errorf("no orders: %d, %v, %d, errors %d, %d", n, ok, cost, e, f)
		}
	}
	for _, l := range [][]api.Chain{{{}}, {anew(1)}, {of(1)}, {of(1, 1)}} {
		if n, ok, e := season.CheckPlan(many(0, 3), l); n != 0 || ok || e != api.OK {
			t.Errorf("CheckPlan(%v) of no orders: %d, %v, error %d", l, n, ok, e)
		}
	}
}

// spoilt returns a list that differs a little from a plan, or not at all.
func spoilt(r *rand.Rand, s api.Season, l []api.Chain) []api.Chain {
	l = slices.Clone(l)
	for range r.IntN(3) {
		k := r.IntN(len(l))
		orders := slices.Clone(l[k].Orders)
		switch r.IntN(8) {
		case 0:
			l = slices.Delete(l, k, k+1)
		case 1:
			l = append(l, l[k])
		case 2:
			l[k].Spare = pick(r, append(spareIds(s), 0, 999)...)
		case 3:
			l[k].Orders = append(orders, pick(r, append(orderIds(s), 0, 999)...))
		case 4:
			l[k].Orders = orders[:r.IntN(len(orders)+1)]
		case 5:
			m := r.IntN(len(l))
			l[k].Orders = append(orders, l[m].Orders...)
			l = slices.Delete(l, m, m+1)
		case 6:
			n := r.IntN(len(orders) + 1)
			l[k].Orders = orders[:n]
			l = append(l, anew(orders[n:]...))
		case 7:
			r.Shuffle(len(l), func(i, j int) { l[i], l[j] = l[j], l[i] })
		}
		if len(l) == 0 {
			return l
		}
	}
	return l
}

// G4, G6, by the chapter's words: plans, and lists that differ a little from one.
func TestG4CheckPlanSamples(t *testing.T) {
	r := rand.New(rand.NewPCG(7, 4))
	found := map[bool]int{}
	for _, s := range append(small(80, 12, 6), large(10)...) {
		if len(s.Orders) == 0 {
			continue
		}
		l, _ := season.Plan(s)
		for range 60 {
			m := spoilt(r, s, l)
			want := isPlan(s, m)
			number, cost, err := 0, 0, api.ErrPlan
			if want {
				number, cost = sum(s, m)
				err = api.OK
			}
			if n, ok, e := season.CheckPlan(s, m); n != number || ok != want || e != api.OK {
				t.Fatalf("CheckPlan(%v, %v): %d, %v, error %d, want %d, %v", s, m, n, ok, e, number, want)
			}
			if n, e := season.Cost(s, m); n != cost || e != err {
				t.Fatalf("Cost(%v, %v): %d, error %d, want %d, %d", s, m, n, e, cost, err)
			}
			found[want]++
		}
	}
	if found[true] < 1000 || found[false] < 1000 {
		t.Errorf("found: %v", found)
	}
}
