package draw

import "strickle/api"

// lookAt looks at a mould and at one of its pieces: it returns the error of CheckMould, or ErrArg if there is no such piece.
func lookAt(m []api.Solid, p int) (mould, api.Errno) {
	l, e := look(m)
	if e == api.OK && !l.isPiece(p) {
		e = api.ErrArg
	}
	return l, e
}

// paths returns all paths to a piece, in order.
func (m mould) paths(p int) []set {
	// With each set that comes first and does not have the piece, those that have one piece more are tried. A path is found so, since its pieces go one behind the other, and the piece last.
	tried := map[set]bool{}
	var found []set
	var try func(set)
	try = func(gone set) {
		if tried[gone] {
			return
		}
		tried[gone] = true
		if gone.has(p) {
			found = append(found, gone)
			return
		}
		for _, q := range m.ready(gone).list() {
			try(gone.with(q))
		}
	}
	try(0)
	return smallest(sorted(found))
}

// smallest returns the sets of a list, sorted by how many pieces they have, no part of which is in it.
func smallest(l []set) []set {
	var kept []set
sets:
	for _, s := range l {
		for _, part := range kept {
			if part.in(s) {
				continue sets
			}
		}
		kept = append(kept, s)
	}
	return kept
}

// Needs returns, ascending, the other pieces that go before a piece in every order that has it: ErrStuck if no order has it.
func Needs(m []api.Solid, p int) ([]int, api.Errno) {
	l, e := lookAt(m, p)
	if e != api.OK {
		return nil, e
	}
	goes := func(some set) bool {
		_, gone := l.order(some)
		return gone.has(p)
	}
	if !goes(l.all()) {
		return nil, api.ErrStuck
	}
	var needed set
	for q := range m {
		if q != p && !goes(l.all().without(only(q))) {
			needed = needed.with(q)
		}
	}
	return needed.list(), api.OK
}

// Paths returns all paths to a piece, by how many pieces they have, then element by element.
func Paths(m []api.Solid, p int) ([][]int, api.Errno) {
	l, e := lookAt(m, p)
	if e != api.OK {
		return nil, e
	}
	return lists(l.paths(p)), api.OK
}

// Quick returns an order that ends with a piece and has as few moves as there can be, and whether there is one.
func Quick(m []api.Solid, p int) ([]api.Move, bool, api.Errno) {
	l, e := lookAt(m, p)
	if e != api.OK {
		return nil, false, e
	}
	paths := l.paths(p)
	if len(paths) == 0 {
		return nil, false, api.OK
	}
	// No lesser set with the piece comes first, so every order of a path ends with it.
	order, _ := l.order(paths[0])
	return order, true, api.OK
}
