package caliper

import (
	"slices"

	"strickle/api"
)

// mostStates is how many states a list may have that is looked at as an adversary.
const mostStates = 6561

// costsOf returns the Costs of a list of states at their findings: false if it is no adversary of the question.
func (q *question) costsOf(l []api.State) (map[findings]int, bool) {
	costs := map[findings]int{}
	for i, x := range l {
		f, ok := findingsOf(x.Found, len(q.probes))
		if !ok || x.Cost < 1 || x.Cost > mostCost || i > 0 && slices.Compare(l[i-1].Found, x.Found) >= 0 {
			return nil, false
		}
		costs[f] = x.Cost
	}
	return costs, true
}

// holds reports whether each probe that was not asked has an answer behind which as much is left to be paid as the state of findings says, by the Costs of the states.
func (q *question) holds(f findings, costs map[findings]int) bool {
probes:
	for i := range q.unasked(f) {
		left := costs[f] - q.probes[i].Cost
		for g := range q.answered(f, i) {
			if left <= costs[g] {
				continue probes
			}
		}
		return false
	}
	return !q.ends(f)
}

// Adversary returns an adversary that holds and has a state in which no probe was asked, with the cost of the question, if this is not 0: ErrMany if too many cells are open.
func Adversary(w api.Wood, l []api.Probe, orders []api.Solid) ([]api.State, api.Errno) {
	q, e := asked(w, l, orders...)
	if e != api.OK {
		return nil, e
	}
	q.value(findings{})
	var states []api.State
	for f, v := range q.values {
		if v > 0 {
			states = append(states, api.State{Found: slices.Clone(f[:len(l)]), Cost: v})
		}
	}
	slices.SortFunc(states, func(a, b api.State) int { return slices.Compare(a.Found, b.Found) })
	return states, api.OK
}

// CheckAdversary reports whether a list of states is an adversary of a question that holds and shows a cost: ErrMany if too many cells are open, ErrLimit if there are too many states.
func CheckAdversary(w api.Wood, l []api.Probe, orders []api.Solid, s []api.State, cost int) (bool, api.Errno) {
	q, e := asked(w, l, orders...)
	if e != api.OK {
		return false, e
	}
	if len(s) > mostStates {
		return false, api.ErrLimit
	}
	costs, ok := q.costsOf(s)
	for f := range costs {
		ok = ok && q.holds(f, costs)
	}
	return ok && costs[findings{}] >= cost, api.OK
}
