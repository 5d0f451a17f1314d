package figure

import (
	"strconv"

	"strickle/api"
	"strickle/solid"
)

// mostBlocks is of how many blocks a drawing of a solid is at most.
const mostBlocks = 20

// grown returns a box of cells of a solid after as many steps of its High as leave it one.
func grown(s api.Solid, b api.Box, step api.Cell) api.Box {
	for {
		more := b
		more.High = api.Cell{X: b.High.X + step.X, Y: b.High.Y + step.Y, Z: b.High.Z + step.Z}
		cells, e := solid.Block(more)
		if e != api.OK || !solid.In(cells, s) {
			return b
		}
		b = more
	}
}

// Blocks divides a solid into boxes.
func Blocks(s api.Solid) []api.Box {
	var l []api.Box
	left := s
	for _, c := range solid.Cells(s) {
		if !solid.Has(left, c) {
			continue
		}
		b := api.Box{Low: c, High: c}
		for _, step := range [...]api.Cell{{X: 1}, {Y: 1}, {Z: 1}} {
			b = grown(left, b, step)
		}
		cells, _ := solid.Block(b)
		left = solid.Less(left, cells)
		l = append(l, b)
	}
	return l
}

// nameOf returns the name of a term of a drawing that is made for a solid.
func nameOf(i int) string { return "p" + strconv.Itoa(i) }

// Drawn returns a drawing of a solid: ErrNone for an empty one, ErrLimit if it is of too many blocks.
func Drawn(s api.Solid) ([]api.Term, api.Errno) {
	if word, z, ok := Profile(s); ok {
		e, err := Shortest(word)
		return []api.Term{{Name: nameOf(0), Kind: api.TermSpun, Numbers: [6]int{z}, Word: e}}, err
	}
	boxes := Blocks(s)
	if len(boxes) == 0 {
		return nil, api.ErrNone
	}
	if len(boxes) > mostBlocks {
		return nil, api.ErrLimit
	}
	return joined(boxes), api.OK
}

// joined returns a drawing of some boxes, at least one: their blocks, and then their joins, each with the next block.
func joined(boxes []api.Box) []api.Term {
	var l []api.Term
	for i, b := range boxes {
		l = append(l, blockOf(nameOf(i), b))
	}
	all := 0
	for i := range boxes[1:] {
		at := len(l)
		l = append(l, api.Term{Name: nameOf(at), Kind: api.TermJoin, A: all, B: i + 1})
		all = at
	}
	return l
}

// blockOf returns the term of a box.
func blockOf(name string, b api.Box) api.Term {
	sides := api.Cell{X: b.High.X - b.Low.X + 1, Y: b.High.Y - b.Low.Y + 1, Z: b.High.Z - b.Low.Z + 1}
	return api.Term{Name: name, Kind: api.TermBlock, Numbers: [6]int{b.Low.X, b.Low.Y, b.Low.Z, sides.X, sides.Y, sides.Z}}
}
