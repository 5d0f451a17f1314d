package plank_test

import (
	"math"
	"math/rand/v2"
	"slices"

	"strickle/api"
	"strickle/plank"
)

// The nodes of the tests.

func waste() api.Node { return api.Node{Kind: api.NodeWaste} }

func plain(kind int) api.Node { return api.Node{Kind: api.NodePlank, At: kind} }

func turned(kind int) api.Node { return api.Node{Kind: api.NodeTurned, At: kind} }

func across(n int) api.Node { return api.Node{Kind: api.NodeAcross, At: n} }

func along(n int) api.Node { return api.Node{Kind: api.NodeAlong, At: n} }

// sawS is the chapter's saw S.
func sawS() api.Saw {
	return api.Saw{Kinds: []api.Kind{{Id: 1, W: 3, H: 2, Worth: 7, Turn: true}, {Id: 2, W: 2, H: 2, Worth: 4}, {Id: 3, W: 1, H: 1}}}
}

// sawK is the chapter's saw K.
func sawK() api.Saw {
	s := sawS()
	s.Kerf = 1
	return s
}

// sample returns a saw of at most some kinds, of at most some width and height, and of at most some worth.
func sample(r *rand.Rand, kinds, side, worth int) api.Saw {
	s := api.Saw{Kerf: r.IntN(3)}
	for i := range r.IntN(kinds + 1) {
		s.Kinds = append(s.Kinds, api.Kind{Id: 10 + i, W: 1 + r.IntN(side), H: 1 + r.IntN(side), Worth: r.IntN(worth + 1), Turn: r.IntN(2) == 0})
	}
	return s
}

// samples returns some saws: the chapter's ones, one without kinds, and such as sample gives.
func samples(n, kinds, side, worth int) []api.Saw {
	r := rand.New(rand.NewPCG(uint64(n), uint64(kinds*100+side)))
	l := []api.Saw{sawS(), sawK(), {}, {Kerf: 2}}
	for range n {
		l = append(l, sample(r, kinds, side, worth))
	}
	return l
}

// full is a saw of 12 kinds with the greatest worths, ids and sizes of all.
func full() api.Saw {
	s := api.Saw{Kerf: api.MaxKerf}
	for i := range api.MaxKinds {
		s.Kinds = append(s.Kinds, api.Kind{Id: api.MaxId - i, W: api.MaxBoard - i, H: 1 + i, Worth: api.MaxWorth, Turn: i%2 == 0})
	}
	return s
}

// tally is what a plan comes to.
type tally struct {
	worth, waste, depth int
	used                []int
}

// look says what a list comes to as a plan, by a heap of the boards that still wait for their nodes.
func look(s api.Saw, w, h int, p []api.Node) (tally, bool) {
	type piece struct{ w, h, depth int }
	x := tally{waste: w * h, used: make([]int, len(s.Kinds))}
	wait := []piece{{w, h, 0}}
	for _, n := range p {
		if len(wait) == 0 {
			return tally{}, false
		}
		b := wait[len(wait)-1]
		wait = wait[:len(wait)-1]
		x.depth = max(x.depth, b.depth)
		switch n.Kind {
		case 0:
			if n.At != 0 {
				return tally{}, false
			}
		case 1, 2:
			if n.At < 0 || n.At >= len(s.Kinds) {
				return tally{}, false
			}
			k := s.Kinds[n.At]
			if n.Kind == 1 && (b.w != k.W || b.h != k.H) || n.Kind == 2 && (!k.Turn || b.w != k.H || b.h != k.W) {
				return tally{}, false
			}
			x.worth += k.Worth
			x.waste -= k.W * k.H
			x.used[n.At]++
		case 3:
			if n.At < 1 || n.At > b.w-1 {
				return tally{}, false
			}
			if rest := b.w - n.At - s.Kerf; rest >= 1 {
				wait = append(wait, piece{rest, b.h, b.depth + 1})
			}
			wait = append(wait, piece{n.At, b.h, b.depth + 1})
		case 4:
			if n.At < 1 || n.At > b.h-1 {
				return tally{}, false
			}
			if rest := b.h - n.At - s.Kerf; rest >= 1 {
				wait = append(wait, piece{b.w, rest, b.depth + 1})
			}
			wait = append(wait, piece{b.w, n.At, b.depth + 1})
		default:
			return tally{}, false
		}
	}
	if len(wait) > 0 {
		return tally{}, false
	}
	return x, true
}

// leaves returns the leaves that a board can be.
func leaves(s api.Saw, w, h int) []api.Node {
	l := []api.Node{waste()}
	for i, k := range s.Kinds {
		if k.W == w && k.H == h {
			l = append(l, plain(i))
		}
		if k.Turn && k.H == w && k.W == h {
			l = append(l, turned(i))
		}
	}
	return l
}

// pair is a cut with what it leaves: the second one has the width or the height 0 if it is not there.
type pair struct {
	node           api.Node
	w1, h1, w2, h2 int
}

// pairs returns the cuts of a board.
func pairs(s api.Saw, w, h int) []pair {
	var l []pair
	for n := 1; n < w; n++ {
		l = append(l, pair{across(n), n, h, max(0, w-n-s.Kerf), h})
	}
	for n := 1; n < h; n++ {
		l = append(l, pair{along(n), w, n, w, max(0, h-n-s.Kerf)})
	}
	return l
}

// all returns all plans of a board, of the board 0 x h or w x 0 the one that has no nodes.
func all(s api.Saw, w, h int) [][]api.Node {
	if w == 0 || h == 0 {
		return [][]api.Node{{}}
	}
	var l [][]api.Node
	for _, n := range leaves(s, w, h) {
		l = append(l, []api.Node{n})
	}
	for _, c := range pairs(s, w, h) {
		second := all(s, c.w2, c.h2)
		for _, p := range all(s, c.w1, c.h1) {
			for _, q := range second {
				l = append(l, slices.Concat([]api.Node{c.node}, p, q))
			}
		}
	}
	return l
}

// used is how often each of at most four kinds is used.
type used [4]int

// outcomes returns what is used in some plan of each board up to one: sets of all that can be, built from the sets of the boards that are left.
func outcomes(s api.Saw, w, h int) map[[2]int]map[used]bool {
	m := map[[2]int]map[used]bool{}
	for a := range w + 1 {
		for b := range h + 1 {
			l := map[used]bool{}
			m[[2]int{a, b}] = l
			if a == 0 || b == 0 {
				l[used{}] = true
				continue
			}
			for _, n := range leaves(s, a, b) {
				var u used
				if n.Kind != api.NodeWaste {
					u[n.At]++
				}
				l[u] = true
			}
			for _, c := range pairs(s, a, b) {
				for u := range m[[2]int{c.w1, c.h1}] {
					for v := range m[[2]int{c.w2, c.h2}] {
						l[used{u[0] + v[0], u[1] + v[1], u[2] + v[2], u[3] + v[3]}] = true
					}
				}
			}
		}
	}
	return m
}

// worthOf returns the worth of what is used.
func worthOf(s api.Saw, u used) int {
	n := 0
	for i, k := range s.Kinds {
		n += u[i] * k.Worth
	}
	return n
}

// none stands for the worth of a plan that is not there.
const none = math.MinInt / 4

// counted returns the greatest worth of a plan that has just so many planks of a kind, for all numbers of them.
func counted(s api.Saw, w, h, kind int) []int {
	m := map[[2]int][]int{}
	for a := range w + 1 {
		for b := range h + 1 {
			l := slices.Repeat([]int{none}, a*b/(s.Kinds[kind].W*s.Kinds[kind].H)+2)
			l[0] = 0
			m[[2]int{a, b}] = l
			if a == 0 || b == 0 {
				continue
			}
			for _, n := range leaves(s, a, b) {
				many, worth := 0, 0
				if n.Kind != api.NodeWaste {
					worth = s.Kinds[n.At].Worth
					if n.At == kind {
						many = 1
					}
				}
				l[many] = max(l[many], worth)
			}
			for _, c := range pairs(s, a, b) {
				for i, x := range m[[2]int{c.w1, c.h1}] {
					for j, y := range m[[2]int{c.w2, c.h2}] {
						if x >= 0 && y >= 0 {
							l[i+j] = max(l[i+j], x+y)
						}
					}
				}
			}
		}
	}
	return m[[2]int{w, h}]
}

// isValuation says by the definition whether lists are a valuation.
func isValuation(s api.Saw, w, h int, v [][]int) bool {
	if len(v) != w {
		return false
	}
	for _, l := range v {
		if len(l) != h {
			return false
		}
		for _, n := range l {
			if n < 0 || n > 1000000000 {
				return false
			}
		}
	}
	of := func(a, b int) int {
		if a == 0 || b == 0 {
			return 0
		}
		return v[a-1][b-1]
	}
	for a := 1; a <= w; a++ {
		for b := 1; b <= h; b++ {
			for _, n := range leaves(s, a, b) {
				if n.Kind != api.NodeWaste && of(a, b) < s.Kinds[n.At].Worth {
					return false
				}
			}
			for _, c := range pairs(s, a, b) {
				if of(a, b) < of(c.w1, c.h1)+of(c.w2, c.h2) {
					return false
				}
			}
		}
	}
	return true
}

// wide returns any plan of a board: one that cuts wherever it likes.
func wide(r *rand.Rand, s api.Saw, w, h int) []api.Node {
	if w == 0 || h == 0 {
		return nil
	}
	l := leaves(s, w, h)
	cuts := pairs(s, w, h)
	if len(cuts) == 0 || r.IntN(8) == 0 {
		return l[len(l)-1-r.IntN(min(2, len(l))):][:1]
	}
	c := cuts[r.IntN(len(cuts))]
	return slices.Concat([]api.Node{c.node}, wide(r, s, c.w1, c.h1), wide(r, s, c.w2, c.h2))
}

// best returns Best, which must end well.
func best(s api.Saw, w, h int) int {
	n, e := plank.Best(s, w, h)
	if e != api.OK {
		panic(e)
	}
	return n
}
