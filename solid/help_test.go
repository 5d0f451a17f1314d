package solid_test

import (
	"math"
	"math/rand/v2"
	"slices"

	"strickle/api"
	"strickle/solid"
)

// at returns a cell.
func at(x, y, z int) api.Cell { return api.Cell{X: x, Y: y, Z: z} }

// moved returns a cell with a move.
func moved(c api.Cell, x, y, z int) api.Cell { return at(c.X+x, c.Y+y, c.Z+z) }

// box returns the box from a, b, c to d, e, f, as it stands.
func box(a, b, c, d, e, f int) api.Box { return api.Box{Low: at(a, b, c), High: at(d, e, f)} }

// set is a solid as the tests work with it: the cells that are in it.
type set map[api.Cell]bool

// setOf returns the set of some cells.
func setOf(l ...api.Cell) set {
	s := set{}
	for _, c := range l {
		s[c] = true
	}
	return s
}

// solid returns a set as a solid, by the chapter's formula, and whether all its cells are in the grid.
func (s set) solid() (api.Solid, bool) {
	var x api.Solid
	for c := range s {
		if !isCell(c) {
			return api.Solid{}, false
		}
		x[c.Z] |= 1 << (8*c.Y + c.X)
	}
	return x, true
}

// cells returns the cells of a set, ordered by Z, then Y, then X.
func (s set) cells() []api.Cell {
	var l []api.Cell
	for c := range s {
		l = append(l, c)
	}
	slices.SortFunc(l, func(a, b api.Cell) int {
		return slices.Compare([]int{a.Z, a.Y, a.X}, []int{b.Z, b.Y, b.X})
	})
	return l
}

// mapped returns the set of what do makes of each cell.
func (s set) mapped(do func(api.Cell) api.Cell) set {
	t := set{}
	for c := range s {
		t[do(c)] = true
	}
	return t
}

// in reports whether all cells of s are in t.
func (s set) in(t set) bool {
	for c := range s {
		if !t[c] {
			return false
		}
	}
	return true
}

// isCell reports whether a cell is in the grid.
func isCell(c api.Cell) bool {
	return min(c.X, c.Y, c.Z) >= 0 && max(c.X, c.Y, c.Z) <= 7
}

// grid returns all cells of the grid, in order.
func grid() []api.Cell {
	var l []api.Cell
	for n := range 512 {
		l = append(l, at(n%8, n/8%8, n/64))
	}
	return l
}

// setIn returns the cells of a solid, by the chapter's formula.
func setIn(x api.Solid) set {
	s := set{}
	for _, c := range grid() {
		if x[c.Z]>>(8*c.Y+c.X)&1 == 1 {
			s[c] = true
		}
	}
	return s
}

// made returns the solid with some cells of the grid.
func made(l ...api.Cell) api.Solid {
	x, ok := setOf(l...).solid()
	if !ok {
		panic("a cell is not in the grid")
	}
	return x
}

// blockOf returns all cells of a box in the grid.
func blockOf(b api.Box) api.Solid {
	var l []api.Cell
	for _, c := range grid() {
		if c.X >= b.Low.X && c.Y >= b.Low.Y && c.Z >= b.Low.Z && c.X <= b.High.X && c.Y <= b.High.Y && c.Z <= b.High.Z {
			l = append(l, c)
		}
	}
	return made(l...)
}

// without returns a solid without some cells.
func without(x api.Solid, l ...api.Cell) api.Solid {
	s := setIn(x)
	for _, c := range l {
		delete(s, c)
	}
	return made(s.cells()...)
}

// with returns a solid with some more cells.
func with(x api.Solid, l ...api.Cell) api.Solid {
	return made(append(setIn(x).cells(), l...)...)
}

// turnedCell returns where a turn takes a cell, by the chapter's table, in a cube whose coordinates are from 0 to n.
func turnedCell(c api.Cell, turn, n int) api.Cell {
	x, y, z := c.X, c.Y, c.Z
	c = []api.Cell{at(x, y, z), at(x, n-z, y), at(x, n-y, n-z), at(x, z, n-y), at(z, y, n-x), at(n-z, y, x)}[turn/4]
	for i := 0; i < turn%4; i++ {
		c = at(n-c.Y, c.X, c.Z)
	}
	return c
}

// placedCell returns where a motion takes a cell.
func placedCell(c api.Cell, m api.Motion) api.Cell {
	return moved(turnedCell(c, m.Turn, 7), m.X, m.Y, m.Z)
}

// toCorner returns a set moved to the corner.
func (s set) toCorner() set {
	low := at(0, 0, 0)
	for i, c := range s.cells() {
		if i == 0 {
			low = c
		}
		low = at(min(low.X, c.X), min(low.Y, c.Y), min(low.Z, c.Z))
	}
	return s.mapped(func(c api.Cell) api.Cell { return moved(c, -low.X, -low.Y, -low.Z) })
}

// image returns what a turn makes of a solid, moved to the corner.
func image(x api.Solid, turn int) api.Solid {
	t := setIn(x).mapped(func(c api.Cell) api.Cell { return turnedCell(c, turn, 7) })
	return made(t.toCorner().cells()...)
}

// sorted sorts solids by their planes and leaves each one once.
func sorted(l []api.Solid) []api.Solid {
	slices.SortFunc(l, func(a, b api.Solid) int {
		for z := range a {
			if a[z] < b[z] {
				return -1
			}
			if a[z] > b[z] {
				return 1
			}
		}
		return 0
	})
	return slices.Compact(l)
}

// ring is the chapter's R.
func ring() api.Solid { return without(blockOf(box(0, 0, 0, 2, 2, 0)), at(1, 1, 0)) }

// ell is the chapter's L.
func ell() api.Solid { return made(at(0, 0, 0), at(1, 0, 0), at(2, 0, 0), at(0, 1, 0)) }

// full is the whole grid.
func full() api.Solid { return blockOf(box(0, 0, 0, 7, 7, 7)) }

// hollow is a block of 3 x 3 x 3 without its middle.
func hollow() api.Solid { return without(blockOf(box(0, 0, 0, 2, 2, 2)), at(1, 1, 1)) }

// hand is a solid that no motion takes to its mirrored one, and that no turn but 0 leaves.
func hand() api.Solid {
	return made(at(3, 3, 3), at(4, 3, 3), at(5, 3, 3), at(3, 4, 3), at(3, 3, 4), at(3, 3, 5), at(4, 3, 5))
}

// shapes are solids of all kinds, at all places of the grid.
func shapes() []api.Solid {
	return []api.Solid{
		{}, ring(), ell(), full(), hollow(), hand(),
		made(at(0, 0, 0)), made(at(7, 7, 7)), made(at(7, 0, 3)), made(at(0, 0, 0), at(1, 1, 1)), made(at(0, 0, 0), at(7, 7, 7)), made(at(7, 0, 0), at(0, 7, 0), at(0, 0, 7)),
		made(at(6, 6, 6), at(7, 7, 6)), made(at(2, 5, 7), at(4, 5, 7)), blockOf(box(0, 0, 0, 7, 0, 0)), blockOf(box(7, 0, 7, 7, 7, 7)), blockOf(box(3, 2, 0, 3, 2, 7)),
		blockOf(box(5, 4, 6, 7, 5, 6)), blockOf(box(1, 1, 1, 6, 6, 6)), without(full(), at(3, 4, 5)), without(full(), at(3, 3, 3), at(4, 4, 4)), without(full(), at(0, 3, 3)), without(full(), at(1, 1, 1), at(6, 6, 6), at(6, 6, 5)),
		without(full(), setIn(blockOf(box(3, 3, 0, 3, 3, 7))).cells()...), without(full(), setIn(blockOf(box(1, 1, 1, 6, 6, 6))).cells()...),
		with(without(full(), setIn(blockOf(box(1, 1, 1, 6, 6, 6))).cells()...), at(3, 3, 3), at(3, 4, 4)),
		{1 << 63}, {0, 0, 0, 0, 0, 0, 0, 1}, {math.MaxUint64}, {0x8040201008040201, 0, 0x0102040810204080}, {0xaa55aa55aa55aa55, 0x55aa55aa55aa55aa, 0xaa55aa55aa55aa55, 0x55aa55aa55aa55aa, 0xaa55aa55aa55aa55, 0x55aa55aa55aa55aa, 0xaa55aa55aa55aa55, 0x55aa55aa55aa55aa},
	}
}

// drawn returns n solids with cells of boxes of all sizes, dense ones and sparse ones, the same ones each time.
func drawn(n int) []api.Solid {
	r := rand.New(rand.NewPCG(3, 4))
	span := func() (int, int) {
		a, b := r.IntN(8), r.IntN(8)
		return min(a, b), max(a, b)
	}
	var l []api.Solid
	for range n {
		var b api.Box
		b.Low.X, b.High.X = span()
		b.Low.Y, b.High.Y = span()
		b.Low.Z, b.High.Z = span()
		part := []float64{0.05, 0.3, 0.6, 0.95}[r.IntN(4)]
		var cells []api.Cell
		for _, c := range setIn(blockOf(b)).cells() {
			if r.Float64() < part {
				cells = append(cells, c)
			}
		}
		l = append(l, made(cells...))
	}
	return l
}

// small returns n solids of few cells within a box of 3 x 3 x 2 at some place, the same ones each time.
func small(n int) []api.Solid {
	r := rand.New(rand.NewPCG(5, 6))
	var l []api.Solid
	for range n {
		low := at(r.IntN(6), r.IntN(6), r.IntN(7))
		var cells []api.Cell
		for range 1 + r.IntN(7) {
			cells = append(cells, moved(low, r.IntN(3), r.IntN(3), r.IntN(2)))
		}
		l = append(l, made(cells...))
	}
	return l
}

// many returns shapes, drawn solids and small ones.
func many() []api.Solid { return slices.Concat(shapes(), drawn(60), small(40)) }

// wrongNumbers are numbers that are no coordinates, no turns and no moves.
func wrongNumbers() []int {
	return []int{-8, -9, -64, -1000, 24, 25, 64, 1000, math.MinInt, math.MinInt + 7, math.MaxInt, math.MaxInt - 7, 1 << 32, -1 << 32}
}

// wrongMotions are motions that are not as the chapter says.
func wrongMotions() []api.Motion {
	l := []api.Motion{{Turn: -1}, {Turn: -4}, {X: 8}, {Y: 8}, {Z: 8}, {X: -8}, {Y: -8}, {Z: -8}}
	for _, n := range wrongNumbers() {
		l = append(l, api.Motion{Turn: n}, api.Motion{X: n}, api.Motion{Y: n}, api.Motion{Z: n}, api.Motion{Turn: n, X: n, Y: n, Z: n})
	}
	return l
}

// motions returns n motions, the same ones each time.
func motions(n int) []api.Motion {
	r := rand.New(rand.NewPCG(7, 8))
	var l []api.Motion
	for i := range n {
		far := []int{0, 1, 3, 7}[r.IntN(4)]
		way := func() int { return r.IntN(2*far+1) - far }
		l = append(l, api.Motion{Turn: i % 24, X: way(), Y: way(), Z: way()})
	}
	return l
}

// shape is what is asked of a solid but its cells.
type shape struct{ cells, parts, cavities, tunnels, skin int }

// shapeOf returns what the package says of a solid.
func shapeOf(x api.Solid) shape {
	return shape{solid.Count(x), len(solid.Parts(x)), len(solid.Cavities(x)), solid.Tunnels(x), solid.Skin(x)}
}
