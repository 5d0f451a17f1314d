package trace

import (
	"slices"

	"strickle/api"
)

// Normal returns the normal form.
func Normal(h api.History) (api.History, api.Errno) {
	p, _, e := look(h)
	if e != api.OK {
		return api.History{}, e
	}
	return p.history(p.least(p.all())), api.OK
}

// Equal reports whether two histories are equal.
func Equal(g, h api.History) (bool, api.Errno) {
	p, q, e := lookBoth(g, h)
	if e == api.ErrOther {
		return false, api.OK
	}
	// Equal histories leave the same stand, so most others need no normal form.
	if e != api.OK || p.stand != q.stand {
		return false, e
	}
	return slices.Equal(p.least(p.all()), q.least(q.all())), api.OK
}

// Steps returns the acts that can be first, then those that can be first when these are done, and so on.
func Steps(h api.History) ([][]api.Action, api.Errno) {
	p, _, e := look(h)
	if e != api.OK {
		return nil, e
	}
	var steps [][]api.Action
	for left := p.all(); left != 0; {
		var now set
		var step []api.Action
		for i := range p.free(left) {
			now |= only(i)
			step = append(step, p.acts[i])
		}
		slices.SortFunc(step, compare)
		steps = append(steps, step)
		left = left.without(now)
	}
	return steps, api.OK
}

// First returns, ascending, the acts that are the first one of some equal history.
func First(h api.History) ([]int, api.Errno) {
	p, _, e := look(h)
	if e != api.OK {
		return nil, e
	}
	return slices.Collect(p.free(p.all())), api.OK
}

// Last returns, ascending, the acts that are the last one of some equal history.
func Last(h api.History) ([]int, api.Errno) {
	p, _, e := look(h)
	if e != api.OK {
		return nil, e
	}
	return p.last().list(), api.OK
}

// Needs returns, ascending, the acts that stand ahead of an act in every equal history: ErrArg if there is no such act.
func Needs(h api.History, i int) ([]int, api.Errno) {
	p, _, e := look(h)
	if e != api.OK {
		return nil, e
	}
	if !p.isAct(i) {
		return nil, api.ErrArg
	}
	return p.needs(i).list(), api.OK
}

// Orders returns how many histories are equal to one: ErrLimit if it has too many acts.
func Orders(h api.History) (int, api.Errno) {
	p, _, e := look(h)
	if e != api.OK {
		return 0, e
	}
	if len(p.acts) > api.MaxCounted {
		return 0, api.ErrLimit
	}
	// In how many ways the rest can be done depends only on what is left.
	known := map[set]int{0: 1}
	var ways func(left set) int
	ways = func(left set) int {
		if n, ok := known[left]; ok {
			return n
		}
		n := 0
		for i := range p.free(left) {
			more := ways(left.without(only(i)))
			n += more
		}
		known[left] = n
		return n
	}
	return ways(p.all()), api.OK
}
