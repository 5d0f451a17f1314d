package caliper

import (
	"iter"
	"slices"

	"strickle/api"
	"strickle/solid"
)

// question is a wood with the probes that can be asked and the orders that it may serve.
type question struct {
	api.Wood
	probes []api.Probe
	orders []api.Solid
	// needs are those of each order, if they were asked for.
	needs [][]api.Solid
	// values are the least costs of deciding the question behind findings, as far as they were asked for.
	values map[findings]int
}

// posed returns a question: ErrArg if the wood, an order or a probe is not as the chapter says, ErrLimit if there are too many orders or probes.
func posed(w api.Wood, l []api.Probe, orders ...api.Solid) (*question, api.Errno) {
	if !isWood(w) {
		return nil, api.ErrArg
	}
	if len(orders) > api.MaxWoods {
		return nil, api.ErrLimit
	}
	if slices.ContainsFunc(orders, isEmpty) {
		return nil, api.ErrArg
	}
	if e := CheckProbes(l); e != api.OK {
		return nil, e
	}
	return &question{Wood: w, probes: l, orders: orders, values: map[findings]int{}}, api.OK
}

// weigh finds the needs of the orders: ErrMany if too many cells are open.
func (q *question) weigh() api.Errno {
	if solid.Count(solid.Less(q.Maybe, q.Sure)) > api.MaxOpen {
		return api.ErrMany
	}
	for _, order := range q.orders {
		q.needs = append(q.needs, needsOf(q.Wood, order))
	}
	return api.OK
}

// asked returns a question with the needs of its orders: ErrMany if too many cells are open.
func asked(w api.Wood, l []api.Probe, orders ...api.Solid) (*question, api.Errno) {
	q, e := posed(w, l, orders...)
	if e != api.OK {
		return nil, e
	}
	if e := q.weigh(); e != api.OK {
		return nil, e
	}
	return q, api.OK
}

// looked returns a question with findings: ErrArg if a list is none.
func looked(w api.Wood, l []api.Probe, found []int, orders ...api.Solid) (*question, findings, api.Errno) {
	q, e := posed(w, l, orders...)
	if e != api.OK {
		return nil, findings{}, e
	}
	f, ok := findingsOf(found, len(l))
	if !ok {
		return nil, findings{}, api.ErrArg
	}
	return q, f, api.OK
}

// least returns the cells that all truths behind findings have: if there can be these, it is the least one.
func (q *question) least(f findings) truth {
	t := truth(q.Sure)
	for i, p := range q.probes {
		if f[i] == yes {
			t = t.with(p.Cells)
		}
	}
	return t
}

// isBehind reports whether a solid that has the cells of the least truth behind findings is one, too.
func (q *question) isBehind(f findings, t truth) bool {
	for i, p := range q.probes {
		if f[i] == no && t.has(p.Cells) {
			return false
		}
	}
	return solid.In(api.Solid(t), q.Maybe)
}

// can reports whether there can be findings.
func (q *question) can(f findings) bool { return q.isBehind(f, q.least(f)) }

// judged returns whether all truths behind findings serve an order with some needs, none of them does, or some do.
func (q *question) judged(f findings, needs []api.Solid) uint8 {
	t := q.least(f)
	switch {
	case slices.ContainsFunc(needs, t.has):
		return api.ServesSure
	case slices.ContainsFunc(needs, func(need api.Solid) bool { return q.isBehind(f, t.with(need)) }):
		return api.ServesPerhaps
	}
	return api.ServesNever
}

// decided reports whether findings that there can be decide the question.
func (q *question) decided(f findings) bool {
	return !slices.ContainsFunc(q.needs, func(needs []api.Solid) bool { return q.judged(f, needs) == api.ServesPerhaps })
}

// unasked yields the probes that were not asked, by their indices.
func (q *question) unasked(f findings) iter.Seq[int] {
	return func(yield func(int) bool) {
		for i := range q.probes {
			if f[i] == notAsked && !yield(i) {
				return
			}
		}
	}
}

// answered yields the findings with an answer more, of one probe, that there can be.
func (q *question) answered(f findings, i int) iter.Seq[findings] {
	return func(yield func(findings) bool) {
		for _, answer := range [...]uint8{yes, no} {
			g := f.with(i, answer)
			if q.can(g) && !yield(g) {
				return
			}
		}
	}
}

// Judged returns for each order whether all truths behind findings serve it, none of them does, or some do: ErrMany if too many cells are open, ErrNone if there cannot be these findings.
func Judged(w api.Wood, l []api.Probe, found []int, orders []api.Solid) ([]uint8, api.Errno) {
	q, f, e := looked(w, l, found, orders...)
	if e != api.OK {
		return nil, e
	}
	if e := q.weigh(); e != api.OK {
		return nil, e
	}
	if !q.can(f) {
		return nil, api.ErrNone
	}
	var judged []uint8
	for _, needs := range q.needs {
		judged = append(judged, q.judged(f, needs))
	}
	return judged, api.OK
}

// Decides reports whether findings decide a question: the errors are those of Judged.
func Decides(w api.Wood, l []api.Probe, found []int, orders []api.Solid) (bool, api.Errno) {
	judged, e := Judged(w, l, found, orders)
	return e == api.OK && !slices.Contains(judged, api.ServesPerhaps), e
}
