package draw

import "strickle/api"

// greatest returns the greatest lock, empty if there is none: what is in a lock never goes, and what never goes is in one.
func (m mould) greatest() set {
	_, gone := m.rounds()
	return m.all().without(gone)
}

// isLock reports whether a set is a lock.
func (m mould) isLock(s set) bool {
	return s != 0 && m.ready(m.all().without(s)) == 0
}

// Lock returns all pieces that are in some lock.
func Lock(m []api.Solid) ([]int, api.Errno) {
	l, e := look(m)
	if e != api.OK {
		return nil, e
	}
	return l.greatest().list(), api.OK
}

// LeastLock returns the first lock with the fewest pieces, and whether there is one.
func LeastLock(m []api.Solid) ([]int, bool, api.Errno) {
	l, e := look(m)
	if e != api.OK {
		return nil, false, e
	}
	for s := range l.greatest().parts() {
		if l.isLock(s) {
			return s.list(), true, api.OK
		}
	}
	return nil, false, api.OK
}

// CheckLock reports whether a list of any numbers is a lock.
func CheckLock(m []api.Solid, l []int) (bool, api.Errno) {
	seen, e := look(m)
	if e != api.OK {
		return false, e
	}
	s, ok := seen.setOf(l)
	return ok && seen.isLock(s), api.OK
}
