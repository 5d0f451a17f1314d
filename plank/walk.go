package plank

import "strickle/api"

// total is what a plan comes to: how many planks of each kind, and how many cuts on the longest way.
type total struct {
	used  []int
	depth int
}

// walk returns what a list of nodes comes to as a plan of the board: false if it is none.
func (b board) walk(p []api.Node) (t total, ok bool) {
	defer func() {
		if recover() != nil {
			t, ok = total{}, false
		}
	}()
	t.used = make([]int, len(b.Kinds))
	var visit func(c board, depth int)
	visit = func(c board, depth int) {
		if len(p) == 0 {
			panic(api.ErrSaw)
		}
		n := p[0]
		p = p[1:]
		left, can := c.ask(n)
		if !can {
			panic(api.ErrSaw)
		}
		if isPlank(n) {
			t.used[n.At]++
		}
		t.depth = max(t.depth, depth)
		for _, part := range c.there(left) {
			visit(part, depth+1)
		}
	}
	visit(b, 0)
	if len(p) > 0 {
		panic(api.ErrSaw)
	}
	return t, true
}

// planOf returns a board, and what a plan of it comes to: the error of the board, then ErrSaw if the list is no plan.
func planOf(s api.Saw, w, h int, p []api.Node) (board, total, api.Errno) {
	b, e := boardOf(s, w, h)
	if e != api.OK {
		return board{}, total{}, e
	}
	t, ok := b.walk(p)
	if !ok {
		return board{}, total{}, api.ErrSaw
	}
	return b, t, api.OK
}

// sum returns the sum of what each of some planks counts.
func (b board) sum(used []int, count func(api.Kind) int) int {
	n := 0
	for i, many := range used {
		n += many * count(b.Kinds[i])
	}
	return n
}

// worthOf returns what a plank is worth.
func worthOf(k api.Kind) int { return k.Worth }

// cellsOf returns how many cells a plank has.
func cellsOf(k api.Kind) int { return k.W * k.H }
