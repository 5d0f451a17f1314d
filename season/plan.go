package season

import (
	"cmp"
	"iter"
	"slices"

	"strickle/api"
)

// web is a season with what can follow what. Its orders and its spares stand by their Ids, so that nothing depends on the places where they stood.
type web struct {
	look
	// can says of each pattern which orders it can serve.
	can [mostPatterns][api.MaxOrders]bool
}

// byNumber returns a new list of things by a number that each has, in their order where it is the same.
func byNumber[T any](things []T, number func(T) int) []T {
	return slices.SortedStableFunc(slices.Values(things), func(x, y T) int { return cmp.Compare(number(x), number(y)) })
}

// woven returns a season with what can follow what: the error of CheckSeason.
func woven(s api.Season) (*web, api.Errno) {
	s.Orders = byNumber(s.Orders, func(x api.Order) int { return x.Id })
	s.Spares = byNumber(s.Spares, func(x api.Spare) int { return x.Id })
	l, e := looked(s)
	if e != api.OK {
		return nil, e
	}
	w := &web{look: l}
	for x, p := range l.patterns {
		for j := range l.served(p.motion) {
			w.can[x][j] = true
		}
	}
	return w, api.OK
}

// reach yields the orders that a pattern can serve.
func (w *web) reach(x int) iter.Seq[int] {
	return w.those(func(j int) bool { return w.can[x][j] })
}

// best returns the first one of some things that are worth most, and what it is worth: zeros if none is worth anything.
func best[T any](things iter.Seq[T], worth func(T) int) (x T, most int) {
	for y := range things {
		if n := worth(y); n > most {
			x, most = y, n
		}
	}
	return x, most
}

// draft is a plan of a season, a cheapest one of those with the patterns that were taken so far.
type draft struct {
	*web
	plan
	// saves is how much one more of each pattern would save at most, and serves the order that it would serve for that, if it would save anything.
	saves, serves [mostPatterns]int
}

// price returns how much a draft would save if an order were served by one more pattern: what serving it costs now, and what the pattern that does so would save elsewhere.
func (d *draft) price(j int) int {
	x := d.plan[j]
	if x == anew {
		return api.NewMark + d.Orders[j].Price
	}
	return d.cut(x, j) + d.saves[x]
}

// weigh finds what one more of each pattern would save. This comes to an end: the draft is a cheapest plan, so nothing is saved by patterns that exchange their orders in a circle.
func (d *draft) weigh() {
	d.saves = [mostPatterns]int{}
	for again := true; again; {
		again = false
		for x := range d.patterns {
			j, saves := best(d.reach(x), func(j int) int { return d.price(j) - d.cut(x, j) })
			if saves > d.saves[x] {
				d.saves[x], d.serves[x] = saves, j
				again = true
			}
		}
	}
}

// take lets a pattern serve the order for which it saves most, the pattern that served this one go on likewise, and so on, until one order less has a new pattern, or one pattern rests.
func (d *draft) take(x int) {
	for x != anew && d.saves[x] > 0 {
		j := d.serves[x]
		x, d.plan[j] = d.plan[j], x
	}
}

// cheapest returns a cheapest plan, and what one more of each pattern would save then. At first all patterns are new; as long as a pattern that is not used would make a better plan, it is taken.
func (w *web) cheapest() *draft {
	d := &draft{web: w}
	for j := range d.plan {
		d.plan[j] = anew
	}
search:
	for {
		d.weigh()
		for x := range d.patterns {
			if d.saves[x] > 0 && !slices.Contains(d.plan[:], x) {
				d.take(x)
				continue search
			}
		}
		return d
	}
}

// least returns the least number of a plan.
func (w *web) least() int {
	number, _ := w.sum(w.cheapest().plan)
	return number
}

// apart returns a season in which a pattern can serve no order, and, if it is what an order leaves, no pattern can serve this one: it has a new one, which serves no other one.
func (w *web) apart(x int) *web {
	apart := *w
	apart.can[x] = [api.MaxOrders]bool{}
	if x < len(w.Orders) {
		for y := range apart.can {
			apart.can[y][x] = false
		}
	}
	return &apart
}

// Least returns the least number of a plan.
func Least(s api.Season) (int, api.Errno) {
	w, e := woven(s)
	if e != api.OK {
		return 0, e
	}
	return w.least(), api.OK
}

// Plan returns a plan with the least number: it is a cheapest one of these.
func Plan(s api.Season) ([]api.Chain, api.Errno) { return CheapPlan(s) }

// Cheapest returns the least number, and the least cost of the plans with it.
func Cheapest(s api.Season) (number, cost int, e api.Errno) {
	w, e := woven(s)
	if e != api.OK {
		return 0, 0, e
	}
	number, cost = w.sum(w.cheapest().plan)
	return number, cost, api.OK
}

// CheapPlan returns a plan with the least number, and the least cost of these.
func CheapPlan(s api.Season) ([]api.Chain, api.Errno) {
	w, e := woven(s)
	if e != api.OK {
		return nil, e
	}
	return w.chains(w.cheapest().plan), api.OK
}

// Critical returns, ascending, the Ids of the orders without which the least number is less.
func Critical(s api.Season) ([]int, api.Errno) {
	w, e := woven(s)
	if e != api.OK {
		return nil, e
	}
	var ids []int
	least := w.least()
	for j, x := range w.Orders {
		// Apart, the order needs a new pattern of its own: as many are needed if the others need one less.
		if w.apart(j).least() == least {
			ids = append(ids, x.Id)
		}
	}
	return ids, api.OK
}

// Idle returns, ascending, the Ids of the spares without any one of which the least number is the same.
func Idle(s api.Season) ([]int, api.Errno) {
	w, e := woven(s)
	if e != api.OK {
		return nil, e
	}
	var ids []int
	least := w.least()
	for k, x := range w.Spares {
		if w.apart(w.spare(k)).least() == least {
			ids = append(ids, x.Id)
		}
	}
	return ids, api.OK
}
