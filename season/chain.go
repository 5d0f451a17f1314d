package season

import (
	"iter"

	"strickle/api"
)

// mostPatterns is how many patterns orders can be cut from, at most.
const mostPatterns = api.MaxOrders + api.MaxSpares

// anew stands for a new pattern, in the place of the index of one.
const anew = -1

// plan is a plan of a season: the pattern that each order is cut from.
type plan [api.MaxOrders]int

// edge is an order, and the pattern that it is cut from.
type edge struct{ pattern, order int }

// first returns the pattern that a chain begins with: false if there is no such spare.
func (l look) first(c api.Chain) (int, bool) {
	if c.Spare == 0 {
		return anew, true
	}
	k, ok := l.spares[c.Spare]
	return l.spare(k), ok
}

// edges yields the edges of a list of chains, each with whether there are such a pattern and such an order: for a chain without orders one that there is not.
func (l look) edges(chains []api.Chain) iter.Seq2[edge, bool] {
	return func(yield func(edge, bool) bool) {
		for _, c := range chains {
			x, ok := l.first(c)
			if len(c.Orders) == 0 && !yield(edge{}, false) {
				return
			}
			for _, id := range c.Orders {
				j, there := l.orders[id]
				if !yield(edge{x, j}, ok && there) {
					return
				}
				x = j
			}
		}
	}
}

// planOf returns the plan that a list of chains is: false if it is none.
func (l look) planOf(chains []api.Chain) (plan, bool) {
	var p plan
	var served [api.MaxOrders]bool
	var used [mostPatterns]bool
	orders := 0
	for x, ok := range l.edges(chains) {
		if !ok || served[x.order] {
			return plan{}, false
		}
		if x.pattern != anew {
			if used[x.pattern] || !l.serves(x.pattern, x.order) {
				return plan{}, false
			}
			used[x.pattern] = true
		}
		served[x.order] = true
		p[x.order] = x.pattern
		orders++
	}
	return p, orders == len(l.Orders)
}

// chains returns the chains of a plan.
func (l look) chains(p plan) []api.Chain {
	next := map[int]int{}
	for j := range l.Orders {
		next[p[j]] = j
	}
	var chains []api.Chain
	for j := range l.Orders {
		var c api.Chain
		switch x := p[j]; {
		case x >= l.spare(0):
			c.Spare = l.Spares[x-l.spare(0)].Id
		case x != anew:
			continue
		}
		for i, ok := j, true; ok; i, ok = next[i] {
			c.Orders = append(c.Orders, l.Orders[i].Id)
		}
		chains = append(chains, c)
	}
	return chains
}

// sum returns the number of a plan, and its cost.
func (l look) sum(p plan) (number, cost int) {
	for j, x := range l.Orders {
		if p[j] == anew {
			number++
			cost += x.Price
		} else {
			cost += l.cut(p[j], j)
		}
	}
	return number, cost
}

// CheckPlan returns the number of a plan, and true: 0 and false for a list that is none.
func CheckPlan(s api.Season, chains []api.Chain) (number int, ok bool, e api.Errno) {
	l, e := looked(s)
	if e != api.OK {
		return 0, false, e
	}
	p, ok := l.planOf(chains)
	if !ok {
		return 0, false, api.OK
	}
	number, _ = l.sum(p)
	return number, true, api.OK
}

// Cost returns the cost of a plan: ErrPlan for a list that is none.
func Cost(s api.Season, chains []api.Chain) (int, api.Errno) {
	l, e := looked(s)
	if e != api.OK {
		return 0, e
	}
	p, ok := l.planOf(chains)
	if !ok {
		return 0, api.ErrPlan
	}
	_, cost := l.sum(p)
	return cost, api.OK
}
