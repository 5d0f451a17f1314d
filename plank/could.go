package plank

import (
	"sort"

	"strickle/api"
)

// Fill returns the least waste of a plan of a board, and a plan with it.
func Fill(s api.Saw, w, h int) (waste int, p []api.Node, e api.Errno) {
	b, e := boardOf(s, w, h)
	if e != api.OK {
		return 0, nil, e
	}
	// Waste is least where planks are worth most, if each of them is worth its cells.
	b.Saw = changed(s, func(k *api.Kind) { k.Worth = cellsOf(*k) })
	cells := b.worths()
	return w*h - cells[b.size], b.plan(cells), api.OK
}

// Shallow returns the greatest worth of a plan whose depth is at most a number.
func Shallow(s api.Saw, w, h, depth int) (int, api.Errno) {
	b, e := boardOf(s, w, h)
	if e != api.OK {
		return 0, e
	}
	if depth < 0 || depth > api.MaxDepth {
		return 0, api.ErrArg
	}
	return b.shallow(depth), api.OK
}

// shallow returns the greatest worth of a plan of at most some depth.
func (b board) shallow(depth int) int {
	// Where parts are worth nothing, as before the first round, a cut is worth no more than waste: so that round gives depth 0.
	var t table
	for range depth + 1 {
		less := t
		t = b.solve(func(c board, s step, _ table) (int, bool) { return c.worth(s, less), true })
	}
	return t[b.size]
}

// Enough returns the least depth of a best plan.
func Enough(s api.Saw, w, h int) (int, api.Errno) {
	b, e := boardOf(s, w, h)
	if e != api.OK {
		return 0, e
	}
	// The least depth is sought as the greatest one below 0.
	least := b.solveBest(func(s step, t table) int {
		if s.parts == (parts{}) {
			return 0
		}
		return min(t[s.parts[0]], t[s.parts[1]]) - 1
	})
	return -least[b.size], api.OK
}

// solveBest returns the greatest value of a step of a best plan of each board up to this one.
func (b board) solveBest(value func(s step, t table) int) table {
	worths := b.worths()
	return b.solve(func(c board, s step, t table) (int, bool) {
		return value(s, t), c.worth(s, worths) == worths[c.size]
	})
}

// With returns the greatest worth of a plan that has a plank of a kind, and true: 0 and false if no plan has one.
func With(s api.Saw, w, h, kind int) (int, bool, api.Errno) {
	b, e := boardAndKind(s, w, h, kind)
	if e != api.OK {
		return 0, false, e
	}
	worth, ok := b.with(kind)
	return worth, ok, api.OK
}

// with returns the greatest worth of a plan that has a plank of a kind: false if no plan has one.
func (b board) with(kind int) (int, bool) {
	worths := b.worths()
	t := b.solve(func(c board, s step, t table) (most int, ok bool) {
		if isOf(s.Node, kind) {
			return c.worth(s, nil), true
		}
		// One part has the plank, and the other one is worth what it can be.
		for i, p := range s.parts {
			if worth, has := t[p]; has {
				most, ok = max(most, worth+worths[s.parts[1-i]]), true
			}
		}
		return most, ok
	})
	worth, ok := t[b.size]
	return worth, ok
}

// Dearer returns by how much the Worth of a kind has to rise so that some best plan has a plank of it, and true: 0 and false if no plan has one.
func Dearer(s api.Saw, w, h, kind int) (int, bool, api.Errno) {
	b, e := boardAndKind(s, w, h, kind)
	if e != api.OK {
		return 0, false, e
	}
	if _, ok := b.with(kind); !ok {
		return 0, false, api.OK
	}
	// One plank that is dearer by the best worth alone is worth no less than that.
	n := sort.Search(b.worths()[b.size], func(n int) bool {
		dear := board{raised(s, kind, s.Kinds[kind].Worth+n), b.size}
		return dear.most(kind) > 0
	})
	return n, true, api.OK
}

// Idle returns the kinds of which no best plan has a plank.
func Idle(s api.Saw, w, h int) ([]int, api.Errno) {
	b, e := boardOf(s, w, h)
	if e != api.OK {
		return nil, e
	}
	var l []int
	for kind := range s.Kinds {
		if b.most(kind) == 0 {
			l = append(l, kind)
		}
	}
	return l, api.OK
}

// Often returns the least and the greatest number of planks of a kind that a best plan has.
func Often(s api.Saw, w, h, kind int) (least, most int, e api.Errno) {
	b, e := boardAndKind(s, w, h, kind)
	if e != api.OK {
		return 0, 0, e
	}
	// The least number is sought as the greatest one below 0.
	return -b.count(kind, -1), b.most(kind), api.OK
}

// most returns the greatest number of planks of a kind that a best plan has.
func (b board) most(kind int) int { return b.count(kind, 1) }

// count returns the greatest sum that a best plan has if each plank of a kind counts so much, and nothing else counts.
func (b board) count(kind, each int) int {
	t := b.solveBest(func(s step, t table) int {
		if isOf(s.Node, kind) {
			return each
		}
		return t[s.parts[0]] + t[s.parts[1]]
	})
	return t[b.size]
}
