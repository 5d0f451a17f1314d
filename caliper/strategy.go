package caliper

import (
	"iter"

	"strickle/api"
)

// mostForks is how many forks a list may have that is looked at as a strategy.
const mostForks = 256

// ending stands in the place of the index of a fork where a strategy ends.
const ending = -1

// mostCost is the greatest Cost of a state. It stands for the cost of a question that no strategy decides, too: all probes together cost less.
const mostCost = 100000

// cheapest returns the first one of some things that costs least, and what it costs: a zero one and a greatest cost if all cost at least so much.
func cheapest[T any](things iter.Seq[T], most int, cost func(T) int) (x T, least int) {
	least = most
	for y := range things {
		if n := cost(y); n < least {
			x, least = y, n
		}
	}
	return x, least
}

// next returns the probe that is asked best behind findings that there can be and that do not decide the question, and what deciding it costs then.
func (q *question) next(f findings) (probe, cost int) {
	return cheapest(q.unasked(f), mostCost, func(i int) int {
		worst := 0
		for g := range q.answered(f, i) {
			worst = max(worst, q.value(g))
		}
		return q.probes[i].Cost + worst
	})
}

// value returns the least cost of deciding the question behind findings that there can be: mostCost if no strategy does.
func (q *question) value(f findings) int {
	v, ok := q.values[f]
	if !ok {
		if !q.decided(f) {
			_, v = q.next(f)
		}
		q.values[f] = v
	}
	return v
}

// ends reports whether a strategy ends with findings.
func (q *question) ends(f findings) bool { return !q.can(f) || q.decided(f) }

// strategy returns a strategy that decides a question, if there is one, at its cost.
func (q *question) strategy() []api.Fork {
	var forks []api.Fork
	var grow func(f findings) int
	grow = func(f findings) int {
		if q.ends(f) {
			return ending
		}
		at := len(forks)
		probe, _ := q.next(f)
		forks = append(forks, api.Fork{Probe: probe})
		found := grow(f.with(probe, yes))
		missed := grow(f.with(probe, no))
		forks[at].Yes, forks[at].No = found, missed
		return at
	}
	grow(findings{})
	return forks
}

// isDecided reports whether a list of forks is a strategy that decides the question for a cost.
func (q *question) isDecided(forks []api.Fork, cost int) (ok bool) {
	defer func() {
		if recover() != nil {
			ok = false
		}
	}()
	require := func(holds bool) {
		if !holds {
			panic(api.ErrOpen)
		}
	}
	named := map[int]bool{}
	var follow func(from, at int, f findings, paid int)
	follow = func(from, at int, f findings, paid int) {
		require(paid <= cost && q.ends(f) == (at == ending))
		if at == ending {
			return
		}
		require(at > from && at < len(forks) && !named[at])
		named[at] = true
		x := forks[at]
		require(x.Probe >= 0 && x.Probe < len(q.probes) && f[x.Probe] == notAsked)
		paid += q.probes[x.Probe].Cost
		follow(at, x.Yes, f.with(x.Probe, yes), paid)
		follow(at, x.No, f.with(x.Probe, no), paid)
	}
	first := ending
	if len(forks) > 0 {
		first = 0
	}
	follow(ending, first, findings{}, 0)
	return len(named) == len(forks)
}

// Cost returns the cost of a question: ErrMany if too many cells are open, ErrOpen if no strategy decides it.
func Cost(w api.Wood, l []api.Probe, orders []api.Solid) (int, api.Errno) {
	q, e := asked(w, l, orders...)
	if e != api.OK {
		return 0, e
	}
	cost := q.value(findings{})
	if cost == mostCost {
		return 0, api.ErrOpen
	}
	return cost, api.OK
}

// Strategy returns a strategy that decides a question for its cost: ErrMany if too many cells are open, ErrOpen if none does.
func Strategy(w api.Wood, l []api.Probe, orders []api.Solid) ([]api.Fork, api.Errno) {
	q, e := asked(w, l, orders...)
	if e != api.OK {
		return nil, e
	}
	if q.value(findings{}) == mostCost {
		return nil, api.ErrOpen
	}
	return q.strategy(), api.OK
}

// CheckStrategy reports whether a list of forks is a strategy that decides a question for a cost: ErrMany if too many cells are open, ErrLimit if there are too many forks.
func CheckStrategy(w api.Wood, l []api.Probe, orders []api.Solid, s []api.Fork, cost int) (bool, api.Errno) {
	q, e := asked(w, l, orders...)
	if e != api.OK {
		return false, e
	}
	if len(s) > mostForks {
		return false, api.ErrLimit
	}
	return q.isDecided(s, cost), api.OK
}
