package plank

import (
	"iter"

	"strickle/api"
)

// table is a number of each of some boards: boards that are not there have none, which counts as 0.
type table map[size]int

// greatest returns the first one of some things with the greatest value, and that value: false if none of them has a value.
func greatest[T any](things iter.Seq[T], value func(T) (int, bool)) (best T, most int, ok bool) {
	for x := range things {
		if n, has := value(x); has && (!ok || n > most) {
			best, most, ok = x, n, true
		}
	}
	return best, most, ok
}

// solve returns the greatest value of a step of each board up to this one, found from the values of lesser boards; boards without a value are left out.
func (b board) solve(value func(c board, s step, t table) (int, bool)) table {
	t := table{}
	for c := range b.boards() {
		_, most, ok := greatest(c.steps(), func(s step) (int, bool) { return value(c, s, t) })
		if ok {
			t[c.size] = most
		}
	}
	return t
}

// worth returns the worth of a step if its parts have the worths of a table.
func (b board) worth(s step, t table) int {
	worth := t[s.parts[0]] + t[s.parts[1]]
	if isPlank(s.Node) {
		worth += b.Kinds[s.At].Worth
	}
	return worth
}

// anyStep values a step by its worth.
func anyStep(c board, s step, t table) (int, bool) { return c.worth(s, t), true }

// worths returns the greatest worths of plans: they are the least valuation, since a valuation asks of each board no more than that it is worth each of its steps.
func (b board) worths() table { return b.solve(anyStep) }

// plan returns a best plan, from the greatest worths.
func (b board) plan(worths table) []api.Node {
	s, _, _ := greatest(b.steps(), func(s step) (int, bool) { return b.worth(s, worths), true })
	var plans [][]api.Node
	for _, c := range b.there(s.parts) {
		plans = append(plans, c.plan(worths))
	}
	return together(s.Node, plans...)
}

// together returns a node with the plans of its parts behind it.
func together(n api.Node, plans ...[]api.Node) []api.Node {
	l := []api.Node{n}
	for _, p := range plans {
		l = append(l, p...)
	}
	return l
}

// isValuation reports whether no step of any board up to this one is worth more than the board.
func (b board) isValuation(t table) bool {
	for c := range b.boards() {
		for s := range c.steps() {
			if c.worth(s, t) > t[c.size] {
				return false
			}
		}
	}
	return true
}

// lists returns the numbers of all boards up to this one, those of each width together.
func (b board) lists(t table) [][]int {
	v := make([][]int, b.size[0])
	for c := range b.boards() {
		column := c.size[0] - 1
		v[column] = append(v[column], t[c.size])
	}
	return v
}

// tableOf returns the table of lists: false if they are not of the board, or have a number that no valuation has.
func (b board) tableOf(v [][]int) (table, bool) {
	if len(v) != b.size[0] {
		return nil, false
	}
	t := table{}
	for i, column := range v {
		if len(column) != b.size[1] {
			return nil, false
		}
		for j, n := range column {
			if n < 0 || n > api.MaxValue {
				return nil, false
			}
			t[size{i + 1, j + 1}] = n
		}
	}
	return t, true
}
