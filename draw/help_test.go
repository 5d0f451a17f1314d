package draw_test

import (
	"math"
	"math/rand/v2"
	"slices"

	"strickle/api"
)

// at returns a cell.
func at(x, y, z int) api.Cell { return api.Cell{X: x, Y: y, Z: z} }

// number returns the number of a cell, by the chapter's formula.
func number(c api.Cell) int { return 64*c.Z + 8*c.Y + c.X }

// made returns the solid with some cells.
func made(l ...api.Cell) api.Solid {
	var s api.Solid
	for _, c := range l {
		s[c.Z] |= 1 << (8*c.Y + c.X)
	}
	return s
}

// flat returns the solid with cells x, z, whose y is 0.
func flat(l ...[2]int) api.Solid {
	var cells []api.Cell
	for _, c := range l {
		cells = append(cells, at(c[0], 0, c[1]))
	}
	return made(cells...)
}

// cellsOf returns the cells of a solid, by their numbers.
func cellsOf(s api.Solid) []api.Cell {
	var l []api.Cell
	for n := range 512 {
		if s[n/64]>>(n%64)&1 == 1 {
			l = append(l, at(n%8, n/8%8, n/64))
		}
	}
	return l
}

// box returns all cells from low to high.
func box(low, high api.Cell) api.Solid {
	var l []api.Cell
	for _, c := range cellsOf(full()) {
		if c.X >= low.X && c.Y >= low.Y && c.Z >= low.Z && c.X <= high.X && c.Y <= high.Y && c.Z <= high.Z {
			l = append(l, c)
		}
	}
	return made(l...)
}

// full is the whole grid.
func full() api.Solid {
	var s api.Solid
	for z := range s {
		s[z] = math.MaxUint64
	}
	return s
}

// union returns the cells that are in one of some solids.
func union(l ...api.Solid) api.Solid {
	var s api.Solid
	for _, x := range l {
		for z := range s {
			s[z] |= x[z]
		}
	}
	return s
}

// minus returns the cells of a solid that are not in another one.
func minus(s, x api.Solid) api.Solid {
	for z := range s {
		s[z] &^= x[z]
	}
	return s
}

// mouldA is the chapter's A.
func mouldA() []api.Solid {
	return []api.Solid{flat([2]int{2, 5}, [2]int{3, 5}, [2]int{4, 5}), flat([2]int{2, 6}, [2]int{3, 6}, [2]int{4, 6}, [2]int{2, 7}, [2]int{3, 7}, [2]int{4, 7}), flat([2]int{5, 5})}
}

// mouldB is the chapter's B.
func mouldB() []api.Solid { return []api.Solid{mouldA()[0], mouldA()[2]} }

// mouldR is the chapter's R.
func mouldR() []api.Solid {
	return []api.Solid{flat([2]int{2, 7}, [2]int{3, 6}), flat([2]int{2, 6}, [2]int{3, 7})}
}

// freeOnes are twelve pieces, each of which can go first.
func freeOnes() []api.Solid {
	var m []api.Solid
	for p := range 12 {
		m = append(m, made(at(p%4*2, p/4*2, 7)))
	}
	return m
}

// tower is eight plates, each below the one before.
func tower() []api.Solid {
	var m []api.Solid
	for z := 7; z >= 0; z-- {
		m = append(m, box(at(2, 2, z), at(5, 5, z)))
	}
	return m
}

// wheel is pieces round a shaft that is sand: each one has a cell above the next one and one below the one before, so that all of them lock each other.
func wheel() []api.Solid {
	around := []api.Cell{at(3, 3, 0), at(4, 3, 0), at(5, 3, 0), at(5, 4, 0), at(5, 5, 0), at(4, 5, 0), at(3, 5, 0), at(3, 4, 0)}
	var m []api.Solid
	for p, c := range around {
		d := around[(p+1)%len(around)]
		m = append(m, made(at(c.X, c.Y, 6), at(d.X, d.Y, 7)))
	}
	return m
}

// gaps is a piece below sand with open places on all four sides, two of them behind other pieces.
func gaps() []api.Solid {
	return []api.Solid{
		made(at(4, 4, 4)), box(at(5, 4, 4), at(5, 4, 7)), box(at(3, 4, 5), at(3, 4, 7)), made(at(3, 4, 4)), box(at(4, 5, 4), at(4, 6, 7)),
		box(at(4, 3, 4), at(4, 3, 5)), box(at(4, 3, 6), at(4, 3, 7)),
	}
}

// namedMoulds are moulds that are written out.
func namedMoulds() [][]api.Solid {
	a, r := mouldA(), mouldR()
	return [][]api.Solid{
		nil, a, mouldB(), r, {a[2], a[1], a[0]}, append(slices.Clone(r), box(at(0, 4, 3), at(1, 4, 7)), box(at(2, 4, 3), at(2, 4, 4))), gaps(), tower(), wheel(),
		{full()}, {made(at(0, 0, 0))}, {made(at(7, 7, 7))}, {made(at(3, 3, 3)), minus(full(), made(at(3, 3, 3)))},
		{box(at(0, 0, 7), at(7, 7, 7)), box(at(0, 0, 0), at(7, 7, 6))},
		{box(at(6, 7, 5), at(7, 7, 5)), box(at(0, 7, 6), at(5, 7, 7)), box(at(0, 7, 5), at(5, 7, 5))},
		{made(at(0, 0, 5), at(0, 0, 7)), made(at(0, 0, 6)), box(at(1, 0, 5), at(3, 0, 7))},
	}
}

// drawnMoulds returns n moulds of up to six pieces, blocks that others cut short, high in the grid at some place, the same ones each time.
func drawnMoulds(n int) [][]api.Solid {
	r := rand.New(rand.NewPCG(9, 10))
	var l [][]api.Solid
	for len(l) < n {
		low := at(r.IntN(5), r.IntN(6), 4+r.IntN(2))
		var m []api.Solid
		var taken api.Solid
		for range 1 + r.IntN(6) {
			from := at(low.X+r.IntN(3), low.Y+r.IntN(2), low.Z+r.IntN(3))
			to := at(min(7, from.X+r.IntN(3)), min(7, from.Y+r.IntN(2)), min(7, from.Z+r.IntN(4)))
			s := minus(box(from, to), taken)
			if s != (api.Solid{}) {
				m = append(m, s)
				taken = union(taken, s)
			}
		}
		r.Shuffle(len(m), func(i, j int) { m[i], m[j] = m[j], m[i] })
		l = append(l, m)
	}
	return l
}

// looseMoulds returns n moulds of up to five pieces whose cells lie about within a small box, so that many of them lock each other, the same ones each time.
func looseMoulds(n int) [][]api.Solid {
	r := rand.New(rand.NewPCG(11, 12))
	var l [][]api.Solid
	for range n {
		k := 2 + r.IntN(4)
		m := make([]api.Solid, k)
		low := at(r.IntN(6), r.IntN(7), 5+r.IntN(2))
		for _, c := range cellsOf(box(low, at(low.X+2, low.Y+1, 7))) {
			if p := r.IntN(k + 1); p < k {
				m[p] = union(m[p], made(c))
			}
		}
		l = append(l, slices.DeleteFunc(m, func(s api.Solid) bool { return s == api.Solid{} }))
	}
	return l
}

// many returns moulds of all kinds.
func many() [][]api.Solid {
	l := slices.Concat(namedMoulds(), drawnMoulds(60), looseMoulds(40))
	for p := range gaps() {
		l = append(l, slices.Delete(gaps(), p, p+1))
	}
	return l
}

// isCell reports whether a cell is in the grid.
func isCell(c api.Cell) bool {
	return min(c.X, c.Y, c.Z) >= 0 && max(c.X, c.Y, c.Z) <= 7
}

// movesOf returns all moves of a piece, in order.
func movesOf(p int) []api.Move {
	l := []api.Move{{Piece: p}}
	for side := 1; side <= 4; side++ {
		for far := 1; far <= 7; far++ {
			l = append(l, api.Move{Piece: p, Side: side, Far: far})
		}
	}
	return l
}

// allMoves returns all moves of a mould.
func allMoves(m []api.Solid) []api.Move {
	var l []api.Move
	for p := range m {
		l = append(l, movesOf(p)...)
	}
	return l
}

// walk returns, step by step, where a move takes the cells of its piece, until all of them are above the grid.
func walk(m []api.Solid, x api.Move) [][]api.Cell {
	to := []api.Cell{{}, at(1, 0, 0), at(0, 1, 0), at(-1, 0, 0), at(0, -1, 0)}[x.Side]
	var l [][]api.Cell
	for step := 1; ; step++ {
		aside, higher := min(step, x.Far), max(0, step-x.Far)
		var now []api.Cell
		over := true
		for _, c := range cellsOf(m[x.Piece]) {
			now = append(now, at(c.X+to.X*aside, c.Y+to.Y*aside, c.Z+higher))
			over = over && c.Z+higher > 7
		}
		if over {
			return l
		}
		l = append(l, now)
	}
}

// whose returns what stands at a cell: a piece, -1 for sand (also beyond the sides of the grid), or 99 for nothing.
func whose(m []api.Solid, c api.Cell) int {
	if c.Z > 7 {
		return 99
	}
	if !isCell(c) {
		return -1
	}
	for p, s := range m {
		if s[c.Z]>>(8*c.Y+c.X)&1 == 1 {
			return p
		}
	}
	return -1
}

// hinder returns, as bits, the pieces that are in the way of a move, and whether no sand is.
func hinder(m []api.Solid, x api.Move) (int, bool) {
	l := 0
	for _, now := range walk(m, x) {
		for _, c := range now {
			p := whose(m, c)
			if p == -1 {
				return 0, false
			}
			if p < 99 && p != x.Piece {
				l |= 1 << p
			}
		}
	}
	return l, true
}

// free is a move without sand in its way, and the pieces in its way.
type free struct {
	move   api.Move
	hinder int
}

// model is a mould as the tests work with it, by the definitions: of each piece the moves without sand in their way; sets are bits.
type model struct {
	pieces int
	free   [][]free
}

// modelOf returns the model of a mould.
func modelOf(m []api.Solid) model {
	o := model{pieces: len(m)}
	for p := range m {
		var l []free
		for _, x := range movesOf(p) {
			if h, ok := hinder(m, x); ok {
				l = append(l, free{x, h})
			}
		}
		o.free = append(o.free, l)
	}
	return o
}

// all returns the set of all pieces.
func (o model) all() int { return 1<<o.pieces - 1 }

// goes returns the first move with which a piece can go, and whether there is one.
func (o model) goes(gone, p int) (api.Move, bool) {
	for _, f := range o.free[p] {
		if f.hinder&^gone == 0 {
			return f.move, true
		}
	}
	return api.Move{}, false
}

// ready returns the pieces that can go.
func (o model) ready(gone int) []int {
	var l []int
	for p := range o.pieces {
		if _, ok := o.goes(gone, p); ok && gone>>p&1 == 0 {
			l = append(l, p)
		}
	}
	return l
}

// isLock reports whether a set is a lock.
func (o model) isLock(s int) bool { return s != 0 && len(o.ready(o.all()&^s)) == 0 }

// sequences returns all sequences in which pieces can go, also some of them alone.
func (o model) sequences() [][]int {
	l := [][]int{nil}
	for i := 0; i < len(l); i++ {
		for _, p := range o.ready(bitsOf(l[i])) {
			l = append(l, append(slices.Clone(l[i]), p))
		}
	}
	return l
}

// coming returns, for each set, whether it comes first.
func (o model) coming() []bool {
	l := make([]bool, o.all()+1)
	l[0] = true
	for s := range l {
		if l[s] {
			for _, p := range o.ready(s) {
				l[s|1<<p] = true
			}
		}
	}
	return l
}

// paths returns all paths to a piece, in order.
func (o model) paths(p int) [][]int {
	coming := o.coming()
	var l [][]int
	for s, ok := range coming {
		if !ok || s>>p&1 == 0 {
			continue
		}
		least := true
		for part := range s {
			least = least && !(part&^s == 0 && part>>p&1 == 1 && coming[part])
		}
		if least {
			l = append(l, listOf(s))
		}
	}
	return inOrder(l)
}

// inOrder sorts lists by how many numbers they have, then element by element.
func inOrder(l [][]int) [][]int {
	slices.SortFunc(l, func(a, b []int) int {
		if len(a) != len(b) {
			return len(a) - len(b)
		}
		return slices.Compare(a, b)
	})
	return l
}

// listOf returns a set as a list.
func listOf(s int) []int {
	var l []int
	for p := range 12 {
		if s>>p&1 == 1 {
			l = append(l, p)
		}
	}
	return l
}

// bitsOf returns a list of pieces as a set.
func bitsOf(l []int) int {
	s := 0
	for _, p := range l {
		s |= 1 << p
	}
	return s
}

// same reports whether two lists of lists are equal.
func same(a, b [][]int) bool {
	return slices.EqualFunc(a, b, func(x, y []int) bool { return slices.Equal(x, y) })
}

// piecesOf returns the pieces of moves.
func piecesOf(l []api.Move) []int {
	var pieces []int
	for _, x := range l {
		pieces = append(pieces, x.Piece)
	}
	return pieces
}

// isOrder reports whether a list of any moves is an order, by the definition.
func isOrder(m []api.Solid, l []api.Move) bool {
	gone := 0
	for _, x := range l {
		if x.Piece < 0 || x.Piece >= len(m) || gone>>x.Piece&1 == 1 || !slices.Contains(movesOf(x.Piece), x) {
			return false
		}
		h, ok := hinder(m, x)
		if !ok || h&^gone != 0 {
			return false
		}
		gone |= 1 << x.Piece
	}
	return true
}

// mapped returns a mould whose cells are taken elsewhere.
func mapped(m []api.Solid, to func(api.Cell) api.Cell) []api.Solid {
	var l []api.Solid
	for _, s := range m {
		var cells []api.Cell
		for _, c := range cellsOf(s) {
			cells = append(cells, to(c))
		}
		l = append(l, made(cells...))
	}
	return l
}

// wrongNumbers are numbers that are no pieces of any mould.
func wrongNumbers() []int {
	return []int{-1, -2, -16, -64, 12, 13, 15, 16, 17, 31, 64, 65, 256, math.MaxInt, math.MinInt, math.MaxInt32, 1 << 32, -1 << 32}
}

// wrongWays are moves of the piece 0 whose Side and Far are not as the chapter says.
func wrongWays() []api.Move {
	l := []api.Move{{Far: 1}, {Far: 7}, {Far: -1}, {Side: 1}, {Side: 4}, {Side: 1, Far: 8}, {Side: 4, Far: 8}, {Side: 2, Far: -1}, {Side: 5}, {Side: 5, Far: 1}, {Side: -1}, {Side: -1, Far: 1}, {Side: 6, Far: 7}}
	for _, n := range wrongNumbers() {
		l = append(l, api.Move{Side: n, Far: 1}, api.Move{Far: n}, api.Move{Side: 3, Far: n}, api.Move{Side: n, Far: n}, api.Move{Side: n})
	}
	return slices.DeleteFunc(l, func(x api.Move) bool { return slices.Contains(movesOf(0), x) })
}

// wrongSets are lists that are no sets of pieces of a mould of n pieces.
func wrongSets(n int) [][]int {
	l := [][]int{{-1}, {n}, {0, 0}, {1, 0}, {0, n}, {-1, 0}, {0, 1, 1}, {0, 2, 1}, {2, 2}, {math.MinInt}, {math.MaxInt}, {0, math.MaxInt}, {1 << 32}, {16}, {64}, make([]int, 100)}
	for _, x := range wrongNumbers() {
		l = append(l, []int{x}, []int{x, 0}, []int{0, x})
	}
	return l
}

// notMould is a list of solids that is no mould, and the error that says so.
type notMould struct {
	m []api.Solid
	e api.Errno
}

// notMoulds are lists of solids that are no moulds.
func notMoulds() []notMould {
	a := mouldA()
	return []notMould{
		{[]api.Solid{{}}, api.ErrArg}, {append(mouldA(), api.Solid{}), api.ErrArg}, {[]api.Solid{a[0], {}, a[1]}, api.ErrArg},
		{append(mouldA(), a[0]), api.ErrArg}, {append(mouldA(), flat([2]int{3, 6}, [2]int{6, 6})), api.ErrArg}, {[]api.Solid{full(), made(at(7, 7, 7))}, api.ErrArg},
		{[]api.Solid{made(at(0, 0, 0)), made(at(7, 7, 7)), made(at(0, 0, 0))}, api.ErrArg}, {append(freeOnes()[:11], freeOnes()[0]), api.ErrArg},
		{append(freeOnes(), made(at(0, 0, 0))), api.ErrLimit}, {make([]api.Solid, 13), api.ErrLimit}, {append(freeOnes(), freeOnes()...), api.ErrLimit}, {make([]api.Solid, 70), api.ErrLimit},
	}
}
