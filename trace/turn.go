package trace

import "strickle/api"

// turn returns two acts of a set that are a turn in what it leaves of the history: the empty set if there is none.
func (p past) turn(left set) set {
	var found set
search:
	for i := range left.acts() {
		for j := range left.without(firstOnes(i + 1)).acts() {
			if !p.ahead[j].has(i) {
				continue
			}
			// What comes later is not independent of this act, which would be between them.
			if !opposite(p.acts[i], p.acts[j]) {
				continue search
			}
			found = only(i) | only(j)
			break search
		}
	}
	return found
}

// Reduced returns the normal form of what is left when turns are left out until there is none.
func Reduced(h api.History) (api.History, api.Errno) {
	p, _, e := look(h)
	if e != api.OK {
		return api.History{}, e
	}
	left := p.all()
	for out := p.turn(left); out != 0; out = p.turn(left) {
		left = left.without(out)
	}
	return p.history(p.least(left)), api.OK
}
