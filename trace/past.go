package trace

import (
	"iter"
	"slices"

	"strickle/api"
)

// past is a history that is looked at.
type past struct {
	api.Pattern
	acts []api.Action
	// ahead has, for each act, those in front of it that are not independent of it: they stay in front of it, whatever is exchanged.
	ahead []set
	// stand is the last stand.
	stand api.Stand
}

// refused is the act of a history that is refused, and why.
type refused struct {
	at int
	e  api.Errno
}

// look looks at a history: it returns the index and the error of Check too.
func look(h api.History) (p past, at int, e api.Errno) {
	defer func() {
		if r, ok := recover().(refused); ok {
			p, at, e = past{}, r.at, r.e
		}
	}()
	refuse := func(e api.Errno) {
		if e != api.OK {
			panic(refused{len(p.acts), e})
		}
	}
	refuse(CheckPattern(h.Pattern))
	if len(h.Acts) > api.MaxActs {
		refuse(api.ErrLimit)
	}
	p = past{Pattern: h.Pattern, stand: api.Stand{Wood: h.Pattern.Blank}}
	for _, a := range h.Acts {
		refuse(p.add(a))
	}
	return p, 0, api.OK
}

// lookBoth looks at two histories: it returns the error of Check of the first one, then of the second one, then ErrOther if their patterns differ.
func lookBoth(g, h api.History) (past, past, api.Errno) {
	p, _, e := look(g)
	if e != api.OK {
		return past{}, past{}, e
	}
	q, _, e := look(h)
	if e != api.OK {
		return past{}, past{}, e
	}
	if p.Blank != q.Blank || !slices.Equal(p.Pieces, q.Pieces) {
		return past{}, past{}, api.ErrOther
	}
	return p, q, api.OK
}

// add adds an act: it returns why it is refused, or OK.
func (p *past) add(a api.Action) api.Errno {
	if !isAction(a, len(p.Pieces)) {
		return api.ErrArg
	}
	if e := refusal(p.stand, deedOf(p.Pattern, a)); e != api.OK {
		return e
	}
	var ahead set
	for i, b := range p.acts {
		if !independent(p.Pattern, a, b) {
			ahead |= only(i)
		}
	}
	p.stand = after(p.stand, p.Pattern, a)
	p.acts = append(p.acts, a)
	p.ahead = append(p.ahead, ahead)
	return api.OK
}

// history returns the history of the same pattern with a list of acts, which it keeps.
func (p past) history(acts []api.Action) api.History {
	return api.History{Pattern: api.Pattern{Blank: p.Blank, Pieces: slices.Clone(p.Pieces)}, Acts: acts}
}

// all returns the set of all acts.
func (p past) all() set { return firstOnes(len(p.acts)) }

// isAct reports whether a number is an act.
func (p past) isAct(i int) bool { return i >= 0 && i < len(p.acts) }

// free yields, ascending, the acts that can be the first one of a set of acts.
func (p past) free(left set) iter.Seq[int] {
	return func(yield func(int) bool) {
		for i := range left.acts() {
			if p.ahead[i]&left == 0 && !yield(i) {
				return
			}
		}
	}
}

// least returns the least list in which the acts of a set can be done. Acts that are free at once are different, since equal ones have the same cells; so each time there is one least act.
func (p past) least(left set) []api.Action {
	var l []api.Action
	for left != 0 {
		next := slices.MinFunc(slices.Collect(p.free(left)), func(i, j int) int { return compare(p.acts[i], p.acts[j]) })
		l = append(l, p.acts[next])
		left = left.without(only(next))
	}
	return l
}

// last returns the acts that are ahead of no other one.
func (p past) last() set {
	some := p.all()
	for _, ahead := range p.ahead {
		some = some.without(ahead)
	}
	return some
}

// needs returns the acts that stand ahead of an act in every equal history.
func (p past) needs(i int) set {
	needed := p.ahead[i]
	for j := i - 1; j >= 0; j-- {
		if needed.has(j) {
			needed |= p.ahead[j]
		}
	}
	return needed
}
