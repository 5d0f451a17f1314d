package season

import (
	"slices"

	"strickle/api"
)

// free returns the season in which nothing has a price or costs anything: plans differ by their numbers alone.
func (w *web) free() *web {
	free := *w
	free.Rate = 0
	free.Orders = slices.Clone(w.Orders)
	for j := range free.Orders {
		free.Orders[j].Price = 0
	}
	return &free
}

// linked reports whether one of two orders can follow the other one.
func (l look) linked(i, j int) bool { return l.serves(i, j) || l.serves(j, i) }

// barOf returns the orders of a bar: false for a list that is none.
func (l look) barOf(ids []int) ([]int, bool) {
	var bar []int
	for n, id := range ids {
		j, ok := l.orders[id]
		if !ok || n > 0 && id <= ids[n-1] || slices.ContainsFunc(bar, func(i int) bool { return l.linked(i, j) }) {
			return nil, false
		}
		bar = append(bar, j)
	}
	return bar, true
}

// starters returns, ascending, the Ids of the spares that can begin at least one of some orders.
func (l look) starters(orders []int) []int {
	var ids []int
	for k, x := range l.Spares {
		if slices.ContainsFunc(orders, func(j int) bool { return l.serves(l.spare(k), j) }) {
			ids = append(ids, x.Id)
		}
	}
	slices.Sort(ids)
	return ids
}

// Bar returns a bar whose bound is the least number.
func Bar(s api.Season) ([]int, api.Errno) {
	w, e := woven(s)
	if e != api.OK {
		return nil, e
	}
	var ids []int
	d := w.free().cheapest()
	for j, x := range d.Orders {
		// One more order like this one would need a new pattern, and one more pattern like what it leaves would save none.
		if d.price(j) > 0 && d.saves[j] == 0 {
			ids = append(ids, x.Id)
		}
	}
	return ids, api.OK
}

// Starters returns, ascending, the Ids of the spares that can begin at least one of some orders: ErrNone if one of these is not there.
func Starters(s api.Season, bar []int) ([]int, api.Errno) {
	l, e := looked(s)
	if e != api.OK {
		return nil, e
	}
	var orders []int
	for _, id := range bar {
		j, ok := l.orders[id]
		if !ok {
			return nil, api.ErrNone
		}
		orders = append(orders, j)
	}
	slices.Sort(orders)
	return l.starters(slices.Compact(orders)), api.OK
}

// CheckBar returns the bound of a bar, and true: 0 and false for a list that is none.
func CheckBar(s api.Season, bar []int) (bound int, ok bool, e api.Errno) {
	l, e := looked(s)
	if e != api.OK {
		return 0, false, e
	}
	orders, ok := l.barOf(bar)
	if !ok {
		return 0, false, api.OK
	}
	return len(orders) - len(l.starters(orders)), true, api.OK
}
