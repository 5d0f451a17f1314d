package season

import (
	"iter"
	"slices"

	"strickle/api"
)

// service is, for each order, how many orders the longest list has in which each can follow the one before, and which ends with it; and which one is just before it there, if any is.
type service struct{ long, before [api.MaxOrders]int }

// ahead yields the orders that an order can follow.
func (w *web) ahead(j int) iter.Seq[int] {
	return w.those(func(i int) bool { return w.can[i][j] })
}

// sorted returns the orders by a number that each has, and by their Ids where it is the same.
func (w *web) sorted(number func(int) int) []int {
	var list []int
	for j := range w.Orders {
		list = append(list, j)
	}
	return byNumber(list, number)
}

// services finds the longest lists: an order can follow only such as begin before it.
func (w *web) services() service {
	var s service
	for _, j := range w.sorted(func(j int) int { return w.Orders[j].From }) {
		i, long := best(w.ahead(j), func(i int) int { return s.long[i] })
		s.before[j] = i
		s.long[j] = long + 1
	}
	return s
}

// levels returns the orders of each level, by their Ids: those of the level n end lists of n orders, and no longer ones.
func (w *web) levels() [][]int {
	var levels [][]int
	s := w.services()
	list := w.sorted(func(j int) int { return s.long[j] })
	for len(list) > 0 {
		long := s.long[list[0]]
		n := slices.IndexFunc(list, func(j int) bool { return s.long[j] > long })
		if n < 0 {
			n = len(list)
		}
		levels = append(levels, list[:n:n])
		list = list[n:]
	}
	return levels
}

// Longest returns the Ids of as many orders as can be, each of which can follow the one before.
func Longest(s api.Season) ([]int, api.Errno) {
	w, e := woven(s)
	if e != api.OK {
		return nil, e
	}
	x := w.services()
	orders := w.sorted(func(j int) int { return x.long[j] })
	if len(orders) == 0 {
		return nil, api.OK
	}
	var list []int
	j := orders[len(orders)-1]
	for range x.long[j] {
		list = append(list, j)
		j = x.before[j]
	}
	slices.Reverse(list)
	return w.ids(list), api.OK
}

// Levels returns the levels.
func Levels(s api.Season) ([][]int, api.Errno) {
	w, e := woven(s)
	if e != api.OK {
		return nil, e
	}
	var levels [][]int
	for _, level := range w.levels() {
		levels = append(levels, w.ids(level))
	}
	return levels, api.OK
}

// areLevels reports whether some lists have each order once, and nothing else, and none has an order that can follow another one of it.
func (l look) areLevels(lists [][]int) bool {
	var seen [api.MaxOrders]bool
	orders := 0
	for _, list := range lists {
		for n, id := range list {
			j, ok := l.orders[id]
			if !ok || seen[j] || slices.ContainsFunc(list[:n], func(id int) bool { return l.linked(l.orders[id], j) }) {
				return false
			}
			seen[j] = true
			orders++
		}
	}
	return orders == len(l.Orders)
}

// CheckLevels reports whether some lists have each order once, and none has an order that can follow another one of it.
func CheckLevels(s api.Season, lists [][]int) (bool, api.Errno) {
	l, e := looked(s)
	if e != api.OK {
		return false, e
	}
	return l.areLevels(lists), api.OK
}
