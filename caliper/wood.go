package caliper

import (
	"cmp"
	"slices"

	"strickle/api"
	"strickle/solid"
)

// isWood reports whether a wood is as the chapter says.
func isWood(w api.Wood) bool { return solid.In(w.Sure, w.Maybe) }

// truth is a solid that a pattern may be.
type truth api.Solid

// has reports whether a truth has all of some cells, which are a need of an order or those of a probe.
func (t truth) has(cells api.Solid) bool { return solid.In(cells, api.Solid(t)) }

// with returns a truth with some cells more.
func (t truth) with(cells api.Solid) truth { return truth(solid.Join(api.Solid(t), cells)) }

// leastSets returns, ascending and each once, those of some sets of cells of which no other one is a part.
func leastSets(sets []api.Solid) []api.Solid {
	// What is a part of a set, and not the set itself, has fewer cells.
	slices.SortFunc(sets, func(a, b api.Solid) int { return cmp.Compare(solid.Count(a), solid.Count(b)) })
	var least []api.Solid
	for _, set := range sets {
		if !slices.ContainsFunc(least, truth(set).has) {
			least = append(least, set)
		}
	}
	slices.SortFunc(least, func(a, b api.Solid) int { return slices.Compare(a[:], b[:]) })
	return least
}

// needsOf returns, ascending, the needs of an order: a truth serves it if it has all cells of one of them.
func needsOf(w api.Wood, order api.Solid) []api.Solid {
	places, _ := solid.Places(w.Maybe, order)
	for i, place := range places {
		places[i] = solid.Less(place, w.Sure)
	}
	return leastSets(places)
}

// fits reports whether an order fits into a truth, which serves it then.
func fits(order, s api.Solid) bool {
	_, ok := solid.Fits(s, order)
	return ok
}

// Serves returns whether a wood serves an order: surely if the least truth does, never if the greatest one does not.
func Serves(w api.Wood, order api.Solid) (uint8, api.Errno) {
	if _, e := posed(w, nil, order); e != api.OK {
		return 0, e
	}
	switch {
	case fits(order, w.Sure):
		return api.ServesSure, api.OK
	case fits(order, w.Maybe):
		return api.ServesPerhaps, api.OK
	}
	return api.ServesNever, api.OK
}

// Truth returns a truth that serves an order, or one that does not, and whether there is such a one.
func Truth(w api.Wood, order api.Solid, serves bool) (api.Solid, bool, api.Errno) {
	if _, e := posed(w, nil, order); e != api.OK {
		return api.Solid{}, false, e
	}
	s := w.Sure
	if serves {
		s = w.Maybe
	}
	if fits(order, s) != serves {
		return api.Solid{}, false, api.OK
	}
	return s, true, api.OK
}

// Needs returns, ascending, the needs of an order: ErrMany if too many cells are open.
func Needs(w api.Wood, order api.Solid) ([]api.Solid, api.Errno) {
	q, e := asked(w, nil, order)
	if e != api.OK {
		return nil, e
	}
	return q.needs[0], api.OK
}
