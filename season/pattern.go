package season

import (
	"iter"
	"slices"

	"strickle/api"
	"strickle/solid"
)

// pattern is a pattern that orders can be cut from.
type pattern struct {
	size, cells int
	wood        api.Solid
	// ready is the first day on which it can serve.
	ready int
}

// left returns the pattern that an order leaves.
func left(x api.Order) pattern {
	return pattern{size: x.Size, cells: solid.Count(x.Wood), wood: x.Wood, ready: x.To + 1}
}

// inStock returns the pattern that a spare is.
func inStock(x api.Spare) pattern {
	return pattern{size: x.Size, cells: solid.Count(x.Wood), wood: x.Wood}
}

// motion returns the first motion that places the wood of an order inside that of a pattern, and true: false if the pattern cannot serve the order.
func (p pattern) motion(x api.Order) (api.Motion, bool) {
	if x.Size != p.size || x.From < p.ready {
		return api.Motion{}, false
	}
	return solid.Fits(p.wood, x.Wood)
}

// serves reports whether a pattern can serve an order.
func (l look) serves(x, j int) bool {
	_, ok := l.patterns[x].motion(l.Orders[j])
	return ok
}

// cut returns what it costs to cut an order from a pattern.
func (l look) cut(x, j int) int {
	return l.Rate * (l.patterns[x].cells - l.patterns[j].cells)
}

// those yields the orders for which something holds.
func (l look) those(holds func(int) bool) iter.Seq[int] {
	return func(yield func(int) bool) {
		for j := range l.Orders {
			if holds(j) && !yield(j) {
				return
			}
		}
	}
}

// served yields the orders that a pattern can serve, which is asked for its motions.
func (l look) served(motion func(api.Order) (api.Motion, bool)) iter.Seq[int] {
	return l.those(func(j int) bool {
		_, ok := motion(l.Orders[j])
		return ok
	})
}

// Follows reports whether an order can follow another one: ErrNone if one of them is not there.
func Follows(s api.Season, first, next int) (bool, api.Errno) {
	_, ok, e := Place(s, first, next)
	return ok, e
}

// Place returns the first motion that places the wood of an order inside that of an order before it, and true: false if it cannot follow that one, ErrNone if one of them is not there.
func Place(s api.Season, first, next int) (api.Motion, bool, api.Errno) {
	l, e := looked(s)
	if e != api.OK {
		return api.Motion{}, false, e
	}
	i, ok := l.orders[first]
	j, there := l.orders[next]
	if !ok || !there {
		return api.Motion{}, false, api.ErrNone
	}
	m, can := l.patterns[i].motion(l.Orders[j])
	return m, can, api.OK
}

// Begins reports whether a spare can begin an order: ErrNone if one of them is not there.
func Begins(s api.Season, spare, order int) (bool, api.Errno) {
	l, e := looked(s)
	if e != api.OK {
		return false, e
	}
	k, ok := l.spares[spare]
	j, there := l.orders[order]
	if !ok || !there {
		return false, api.ErrNone
	}
	return l.serves(l.spare(k), j), api.OK
}

// Reach returns, ascending, the Ids of the orders that a spare can begin: ErrNone if it is not there.
func Reach(s api.Season, spare int) ([]int, api.Errno) {
	l, e := looked(s)
	if e != api.OK {
		return nil, e
	}
	k, ok := l.spares[spare]
	if !ok {
		return nil, api.ErrNone
	}
	p := l.patterns[l.spare(k)]
	ids := l.ids(slices.Collect(l.served(p.motion)))
	slices.Sort(ids)
	return ids, api.OK
}
