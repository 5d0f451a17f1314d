package trace

import (
	"slices"

	"strickle/api"
)

// rests returns the acts of two histories of one pattern that are behind their greatest common beginning. An act that can be first in both begins it, and then the rest of it begins what is left of both: it does not matter which act is found first.
func rests(p, q past) (set, set) {
	ofP, ofQ := p.all(), q.all()
search:
	for {
		for i := range p.free(ofP) {
			for j := range q.free(ofQ) {
				if p.acts[i] == q.acts[j] {
					ofP = ofP.without(only(i))
					ofQ = ofQ.without(only(j))
					continue search
				}
			}
		}
		return ofP, ofQ
	}
}

// clash returns the first one of some acts of a pattern that is not independent of some of others, the first such one of these, and whether there is one.
func clash(p api.Pattern, some, others []api.Action) (a, b api.Action, ok bool) {
	for _, a := range some {
		for _, b := range others {
			if !independent(p, a, b) {
				return a, b, true
			}
		}
	}
	return api.Action{}, api.Action{}, false
}

// Begins reports whether a history begins another one.
func Begins(g, h api.History) (bool, api.Errno) {
	p, q, e := lookBoth(g, h)
	if e == api.ErrOther {
		return false, api.OK
	}
	if e != api.OK {
		return false, e
	}
	more, _ := rests(p, q)
	return more == 0, api.OK
}

// Rest returns the least list of acts with which a history goes on to another one: ErrBegin if it does not begin that one.
func Rest(g, h api.History) ([]api.Action, api.Errno) {
	p, q, e := lookBoth(g, h)
	if e != api.OK {
		return nil, e
	}
	more, rest := rests(p, q)
	if more != 0 {
		return nil, api.ErrBegin
	}
	return q.least(rest), api.OK
}

// Common returns the greatest common beginning.
func Common(g, h api.History) (api.History, api.Errno) {
	p, q, e := lookBoth(g, h)
	if e != api.OK {
		return api.History{}, e
	}
	rest, _ := rests(p, q)
	return p.history(p.least(p.all().without(rest))), api.OK
}

// Merge returns the least continuation: ErrClash if there is none, ErrLimit if it has too many acts.
func Merge(g, h api.History) (api.History, api.Errno) {
	p, q, e := lookBoth(g, h)
	if e != api.OK {
		return api.History{}, e
	}
	ofP, ofQ := rests(p, q)
	more := q.least(ofQ)
	if _, _, ok := clash(p.Pattern, p.least(ofP), more); ok {
		return api.History{}, api.ErrClash
	}
	// One rest leaves the cells of the other one as they are, so it can be done behind it.
	return Normal(p.history(slices.Concat(p.acts, more)))
}

// Conflict returns the first act of the one rest, behind the greatest common beginning, that is not independent of some act of the other rest, the first such act of that one, and whether there is one.
func Conflict(g, h api.History) (a, b api.Action, ok bool, e api.Errno) {
	p, q, e := lookBoth(g, h)
	if e != api.OK {
		return api.Action{}, api.Action{}, false, e
	}
	ofP, ofQ := rests(p, q)
	a, b, ok = clash(p.Pattern, p.least(ofP), q.least(ofQ))
	return a, b, ok, api.OK
}
