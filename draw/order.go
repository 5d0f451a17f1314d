package draw

import "strickle/api"

// order returns the order in which each time the least piece of some goes that can go, by its first move, until none can, and the set of its pieces. Nothing that goes hinders another piece, so these are all of them that can go without others.
func (m mould) order(some set) ([]api.Move, set) {
	var l []api.Move
	var gone set
	for {
		now := m.ready(gone) & some
		if now == 0 {
			return l, gone
		}
		p := now.least()
		x, _ := m.first(gone, p)
		l = append(l, x)
		gone = gone.with(p)
	}
}

// rounds returns the sets of pieces that go at once, round by round, and the set of them all.
func (m mould) rounds() (l []set, gone set) {
	for now := m.ready(0); now != 0; now = m.ready(gone) {
		l = append(l, now)
		gone |= now
	}
	return l, gone
}

// comesFirst reports whether some order begins with a set.
func (m mould) comesFirst(s set) bool {
	_, gone := m.order(s)
	return gone == s
}

// isOrder reports whether a list of any moves is an order.
func (m mould) isOrder(l []api.Move) bool {
	var gone set
	for _, x := range l {
		if !m.isMove(x) || gone.has(x.Piece) || !m.canGo(gone, x) {
			return false
		}
		gone = gone.with(x.Piece)
	}
	return true
}

// Draw returns the order of all pieces in which each time the least piece that can go goes, by its first move, and whether there is an order of all.
func Draw(m []api.Solid) ([]api.Move, bool, api.Errno) {
	l, e := look(m)
	if e != api.OK {
		return nil, false, e
	}
	order, gone := l.order(l.all())
	if gone != l.all() {
		return nil, false, api.OK
	}
	return order, true, api.OK
}

// CheckDraw reports whether a list of any moves is an order of all pieces.
func CheckDraw(m []api.Solid, l []api.Move) (bool, api.Errno) {
	ok, e := CheckOrder(m, l)
	return ok && len(l) == len(m), e
}

// CheckOrder reports whether a list of any moves is an order.
func CheckOrder(m []api.Solid, l []api.Move) (bool, api.Errno) {
	seen, e := look(m)
	if e != api.OK {
		return false, e
	}
	return seen.isOrder(l), api.OK
}

// Rounds returns the pieces that can go first, then those that can go when these have gone, and so on.
func Rounds(m []api.Solid) ([][]int, api.Errno) {
	l, e := look(m)
	if e != api.OK {
		return nil, e
	}
	rounds, _ := l.rounds()
	return lists(rounds), api.OK
}

// lists returns sets as lists.
func lists(sets []set) [][]int {
	var l [][]int
	for _, s := range sets {
		l = append(l, s.list())
	}
	return l
}

// First reports whether a set comes first.
func First(m []api.Solid, set []int) (bool, api.Errno) {
	l, some, e := lookWithout(m, set)
	if e != api.OK {
		return false, e
	}
	return l.comesFirst(some), api.OK
}

// Orders returns in how many sequences all pieces can go, at most MaxWays.
func Orders(m []api.Solid) (int, api.Errno) {
	l, e := look(m)
	if e != api.OK {
		return 0, e
	}
	// How the rest can go depends only on what has gone, not on how it went.
	known := map[set]int{l.all(): 1}
	var ways func(gone set) int
	ways = func(gone set) int {
		if n, ok := known[gone]; ok {
			return n
		}
		n := 0
		for _, p := range l.ready(gone).list() {
			more := ways(gone.with(p))
			n = min(n+more, api.MaxWays)
		}
		known[gone] = n
		return n
	}
	return ways(0), api.OK
}

// Last returns, ascending, the pieces without which the set of all others comes first, if there is an order of all.
func Last(m []api.Solid) ([]int, api.Errno) {
	l, e := look(m)
	if e != api.OK {
		return nil, e
	}
	if !l.comesFirst(l.all()) {
		return nil, api.OK
	}
	var some set
	for p := range m {
		if l.comesFirst(l.all().without(only(p))) {
			some = some.with(p)
		}
	}
	return some.list(), api.OK
}
