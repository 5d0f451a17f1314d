package draw

import "strickle/api"

// InWay returns, ascending, the pieces that are in the way of a move, and whether no sand is.
func InWay(m []api.Solid, x api.Move) ([]int, bool, api.Errno) {
	l, e := look(m)
	if e != api.OK {
		return nil, false, e
	}
	if !l.isMove(x) {
		return nil, false, api.ErrArg
	}
	w, ok := l.wayOf(x)
	return w.pieces.list(), ok, api.OK
}

// Holds returns the first cell on the way of a move at which something stands that has not gone, whose it is, and whether there is one.
func Holds(m []api.Solid, gone []int, x api.Move) (cell, piece int, ok bool, e api.Errno) {
	l, out, e := lookWithout(m, gone)
	if e != api.OK {
		return 0, 0, false, e
	}
	if !l.isMove(x) || out.has(x.Piece) {
		return 0, 0, false, api.ErrArg
	}
	there := l.rest(out.with(x.Piece))
	for at, within := range stands(m[x.Piece], x) {
		if !within {
			return -1, -1, true, api.OK
		}
		if at.touches(there) {
			cell = at.meet(there).least()
			return cell, l.owner(cell), true, api.OK
		}
	}
	return 0, 0, false, api.OK
}

// Go returns the first move with which a piece can go, a set of pieces having gone, and whether there is one.
func Go(m []api.Solid, gone []int, p int) (api.Move, bool, api.Errno) {
	l, out, e := lookWithout(m, gone)
	if e != api.OK {
		return api.Move{}, false, e
	}
	if !l.isPiece(p) || out.has(p) {
		return api.Move{}, false, api.ErrArg
	}
	x, ok := l.first(out, p)
	return x, ok, api.OK
}

// CheckGo reports whether a piece can go with a move, a set of pieces having gone.
func CheckGo(m []api.Solid, gone []int, x api.Move) (bool, api.Errno) {
	l, out, e := lookWithout(m, gone)
	if e != api.OK {
		return false, e
	}
	if !l.isMove(x) || out.has(x.Piece) {
		return false, api.ErrArg
	}
	return l.canGo(out, x), api.OK
}

// Ready returns, ascending, the pieces that can go, a set of pieces having gone.
func Ready(m []api.Solid, gone []int) ([]int, api.Errno) {
	l, out, e := lookWithout(m, gone)
	if e != api.OK {
		return nil, e
	}
	return l.ready(out).list(), api.OK
}
