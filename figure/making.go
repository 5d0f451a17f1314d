package figure

import (
	"strickle/api"
	"strickle/solid"
)

// last is the greatest coordinate of a cell.
const last = api.MaxSide - 1

// span is the least and the greatest number of some.
type span struct{ least, most int }

// making is how a term makes its solid: what it is, its type says.
type making interface {
	// from returns the indices of the terms that it is made from: A, then B, as far as its kind has them.
	from() []int
	// spans returns from which spans its Numbers are, as many as its kind has.
	spans() []span
}

// leaf, single and pair are makings from no term, from one and from two.
type (
	leaf   struct{}
	single struct{ a int }
	pair   struct{ a, b int }
)

func (leaf) from() []int { return nil }

func (s single) from() []int { return []int{s.a} }

func (p pair) from() []int { return []int{p.a, p.b} }

// spans returns none: pairs have no Numbers.
func (pair) spans() []span { return nil }

// The makings of the kinds of terms.
type (
	block struct {
		leaf
		low, sides api.Cell
	}
	join struct{ pair }
	less struct{ pair }
	meet struct{ pair }
	move struct {
		single
		by api.Cell
	}
	turn struct {
		single
		turn int
	}
	row struct {
		single
		many int
		by   api.Cell
	}
	mirror struct {
		single
		axis int
	}
	spun struct {
		leaf
		z          int
		expression string
	}
)

func (b block) spans() []span {
	return []span{{0, last}, {0, last}, {0, last}, {1, api.MaxSide - b.low.X}, {1, api.MaxSide - b.low.Y}, {1, api.MaxSide - b.low.Z}}
}

func (move) spans() []span { return []span{{-last, last}, {-last, last}, {-last, last}} }

func (turn) spans() []span { return []span{{0, api.Turns - 1}} }

func (row) spans() []span {
	return []span{{2, api.MaxSide}, {-last, last}, {-last, last}, {-last, last}}
}

func (mirror) spans() []span { return []span{{0, 2}} }

func (spun) spans() []span { return []span{{0, last}} }

// makingOf returns how a term makes its solid: nil for a kind that is none.
func makingOf(t api.Term) making {
	n := t.Numbers
	switch t.Kind {
	case api.TermBlock:
		return block{low: api.Cell{X: n[0], Y: n[1], Z: n[2]}, sides: api.Cell{X: n[3], Y: n[4], Z: n[5]}}
	case api.TermJoin:
		return join{pair{t.A, t.B}}
	case api.TermLess:
		return less{pair{t.A, t.B}}
	case api.TermMeet:
		return meet{pair{t.A, t.B}}
	case api.TermMove:
		return move{single{t.A}, api.Cell{X: n[0], Y: n[1], Z: n[2]}}
	case api.TermTurn:
		return turn{single{t.A}, n[0]}
	case api.TermRow:
		return row{single{t.A}, n[0], api.Cell{X: n[1], Y: n[2], Z: n[3]}}
	case api.TermMirror:
		return mirror{single{t.A}, n[0]}
	case api.TermSpun:
		return spun{z: n[0], expression: t.Word}
	}
	return nil
}

// valueOf returns the solid that a term of a drawing makes, from the values of the terms before it: ErrOut if it cannot be.
func valueOf(m making, values []api.Solid) (api.Solid, api.Errno) {
	switch m := m.(type) {
	case block:
		return solid.Block(m.box())
	case join:
		return solid.Join(values[m.a], values[m.b]), api.OK
	case less:
		return solid.Less(values[m.a], values[m.b]), api.OK
	case meet:
		return solid.Meet(values[m.a], values[m.b]), api.OK
	case move:
		return solid.Moved(values[m.a], m.by.X, m.by.Y, m.by.Z)
	case turn:
		return solid.Turned(values[m.a], m.turn)
	case row:
		return m.solid(values[m.a])
	case mirror:
		return solid.Mirrored(values[m.a], m.axis)
	case spun:
		return m.solid()
	}
	return api.Solid{}, api.ErrArg
}

// box returns the box whose cells are those of a block.
func (b block) box() api.Box {
	high := api.Cell{X: b.low.X + b.sides.X - 1, Y: b.low.Y + b.sides.Y - 1, Z: b.low.Z + b.sides.Z - 1}
	return api.Box{Low: b.low, High: high}
}

// solid returns a row of a solid: ErrOut if a move takes a cell of it out of the grid.
func (r row) solid(s api.Solid) (api.Solid, api.Errno) {
	all := s
	for i := range r.many {
		one, e := solid.Moved(s, i*r.by.X, i*r.by.Y, i*r.by.Z)
		if e != api.OK {
			return api.Solid{}, e
		}
		all = solid.Join(all, one)
	}
	return all, api.OK
}

// solid returns what is spun by the word of the expression: an error if there is none, or it cannot be spun.
func (s spun) solid() (api.Solid, api.Errno) {
	word, e := Spread(s.expression)
	if e != api.OK {
		return api.Solid{}, e
	}
	return Spun(word, s.z)
}
