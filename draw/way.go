package draw

import (
	"iter"
	"math/bits"

	"strickle/api"
)

// body is cells on which something stands.
type body api.Solid

const (
	// planeCells is the number of cells of a plane.
	planeCells = api.MaxSide * api.MaxSide
	// westEdge and eastEdge are the cells of a plane with the least and with the greatest x.
	westEdge = 0x0101010101010101
	eastEdge = 0x8080808080808080
	// last is how far a piece can go sideways at most.
	last = api.MaxSide - 1
	// lastSide is the greatest number of a side.
	lastSide = 4
)

// The steps of a body by one cell. What leaves the grid is lost.

func (b body) up() body {
	copy(b[1:], b[:])
	b[0] = 0
	return b
}

func (b body) east() body {
	for z := range b {
		b[z] = (b[z] &^ eastEdge) << 1
	}
	return b
}

func (b body) south() body {
	for z := range b {
		b[z] <<= api.MaxSide
	}
	return b
}

func (b body) west() body {
	for z := range b {
		b[z] = (b[z] &^ westEdge) >> 1
	}
	return b
}

func (b body) north() body {
	for z := range b {
		b[z] >>= api.MaxSide
	}
	return b
}

// step returns a body one cell farther to a side, numbered as in the chapter.
func (b body) step(side int) body {
	steps := [...]func(body) body{body.up, body.east, body.south, body.west, body.north}
	return steps[side](b)
}

// join returns the cells that are in one of two bodies.
func (b body) join(c body) body {
	for z := range b {
		b[z] |= c[z]
	}
	return b
}

// meet returns the cells that are in both of two bodies.
func (b body) meet(c body) body {
	for z := range b {
		b[z] &= c[z]
	}
	return b
}

// less returns the cells of a body that are not in another one.
func (b body) less(c body) body {
	for z := range b {
		b[z] &^= c[z]
	}
	return b
}

// isEmpty reports whether a body has no cell.
func (b body) isEmpty() bool { return b == body{} }

// touches reports whether two bodies have a cell in common.
func (b body) touches(c body) bool { return !b.meet(c).isEmpty() }

// count returns the number of cells.
func (b body) count() int {
	n := 0
	for _, plane := range b {
		n += bits.OnesCount64(plane)
	}
	return n
}

// least returns the least number of a cell of a body that is not empty.
func (b body) least() int {
	z := 0
	for b[z] == 0 {
		z++
	}
	return planeCells*z + bits.TrailingZeros64(b[z])
}

// hasCell reports whether a body has the cell with a number.
func (b body) hasCell(cell int) bool {
	return b[cell/planeCells]>>(cell%planeCells)&1 == 1
}

// isWay reports whether the side of a move, and how far it goes, are as the chapter says.
func isWay(x api.Move) bool {
	if x.Side == 0 {
		return x.Far == 0
	}
	return x.Side >= 1 && x.Side <= lastSide && x.Far >= 1 && x.Far <= last
}

// moves yields all moves of a piece, in order.
func moves(p int) iter.Seq[api.Move] {
	return func(yield func(api.Move) bool) {
		if !yield(api.Move{Piece: p}) {
			return
		}
		for side := 1; side <= lastSide; side++ {
			for far := 1; far <= last; far++ {
				if !yield(api.Move{Piece: p, Side: side, Far: far}) {
					return
				}
			}
		}
	}
}

// stands yields, step by step, on what cells a solid stands on the way of a move, and whether it is still between the sides of the grid: where it is not, its way ends.
func stands(s api.Solid, x api.Move) iter.Seq2[body, bool] {
	return func(yield func(body, bool) bool) {
		at := body(s)
		cells := at.count()
		for range x.Far {
			at = at.step(x.Side)
			within := at.count() == cells
			if !yield(at, within) || !within {
				return
			}
		}
		for at = at.up(); !at.isEmpty(); at = at.up() {
			if !yield(at, true) {
				return
			}
		}
	}
}
