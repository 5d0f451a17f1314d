package draw

import "strickle/api"

// pieces are the pieces of a mould.
type pieces []api.Solid

// check returns the error of pieces that are no mould.
func (l pieces) check() api.Errno {
	if len(l) > api.MaxPieces {
		return api.ErrLimit
	}
	var taken body
	for _, s := range l {
		if body(s).isEmpty() || taken.touches(body(s)) {
			return api.ErrArg
		}
		taken = taken.join(body(s))
	}
	return api.OK
}

// all returns the set of all pieces.
func (l pieces) all() set { return 1<<len(l) - 1 }

// isPiece reports whether a number is a piece.
func (l pieces) isPiece(p int) bool { return p >= 0 && p < len(l) }

// isMove reports whether a move is one of a piece.
func (l pieces) isMove(x api.Move) bool { return l.isPiece(x.Piece) && isWay(x) }

// setOf returns the set with a list of pieces, and whether the list is a set of pieces.
func (l pieces) setOf(list []int) (set, bool) {
	var s set
	before := -1
	for _, p := range list {
		if p <= before || !l.isPiece(p) {
			return 0, false
		}
		s = s.with(p)
		before = p
	}
	return s, true
}

// rest returns the cells of the grid that are of none of some pieces.
func (l pieces) rest(some set) body {
	var taken body
	for p, s := range l {
		if some.has(p) {
			taken = taken.join(body(s))
		}
	}
	for z := range taken {
		taken[z] = ^taken[z]
	}
	return taken
}

// sand returns the cells of no piece.
func (l pieces) sand() body { return l.rest(l.all()) }

// owner returns the piece that has a cell, or -1 for sand.
func (l pieces) owner(cell int) int {
	for p, s := range l {
		if body(s).hasCell(cell) {
			return p
		}
	}
	return -1
}

// touched returns the pieces, but one, that have a cell of a body.
func (l pieces) touched(b body, but int) set {
	var some set
	for p, s := range l {
		if p != but && b.touches(body(s)) {
			some = some.with(p)
		}
	}
	return some
}

// way is a move without sand in its way, and the pieces that are in its way.
type way struct {
	move   api.Move
	pieces set
}

// mould is a mould that is looked at: its pieces and, of those pieces of which they were asked for, the ways that are free of sand, in the order of the moves.
type mould struct {
	pieces
	ways map[int][]way
}

// look looks at a mould: it returns the error of CheckMould.
func look(m []api.Solid) (mould, api.Errno) {
	if e := CheckMould(m); e != api.OK {
		return mould{}, e
	}
	return mould{pieces: m, ways: map[int][]way{}}, api.OK
}

// lookWithout looks at a mould from which some pieces have gone: it returns the error of CheckMould, or ErrArg if the list is no set.
func lookWithout(m []api.Solid, gone []int) (mould, set, api.Errno) {
	l, e := look(m)
	if e != api.OK {
		return mould{}, 0, e
	}
	out, ok := l.setOf(gone)
	if !ok {
		return mould{}, 0, api.ErrArg
	}
	return l, out, api.OK
}

// waysOf returns the ways of a piece that are free of sand, in the order of its moves.
func (m mould) waysOf(p int) []way {
	if l, ok := m.ways[p]; ok {
		return l
	}
	var l []way
	sand := m.sand()
trying:
	for x := range moves(p) {
		w := way{move: x}
		for at, within := range stands(m.pieces[p], x) {
			if !within || at.touches(sand) {
				continue trying
			}
			w.pieces |= m.touched(at, p)
		}
		l = append(l, w)
	}
	m.ways[p] = l
	return l
}

// wayOf returns the way of a move, and whether it is free of sand.
func (m mould) wayOf(x api.Move) (way, bool) {
	for _, w := range m.waysOf(x.Piece) {
		if w.move == x {
			return w, true
		}
	}
	return way{}, false
}

// canGo reports whether a piece can go with a move, some having gone.
func (m mould) canGo(gone set, x api.Move) bool {
	w, ok := m.wayOf(x)
	return ok && w.pieces.in(gone)
}

// first returns the first move with which a piece can go, some having gone, and whether there is one.
func (m mould) first(gone set, p int) (api.Move, bool) {
	for _, w := range m.waysOf(p) {
		if w.pieces.in(gone) {
			return w.move, true
		}
	}
	return api.Move{}, false
}

// ready returns the pieces that can go, some having gone.
func (m mould) ready(gone set) set {
	var some set
	for p := range m.pieces {
		if gone.has(p) {
			continue
		}
		if _, ok := m.first(gone, p); ok {
			some = some.with(p)
		}
	}
	return some
}
