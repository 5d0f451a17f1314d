package plank

import (
	"iter"

	"strickle/api"
)

// size is the width and the height of a board: 0 x 0 stands for a board that is not there.
type size [2]int

// parts are the boards that a cut leaves: none that is there behind a leaf, and a second one only if the kerf leaves it.
type parts [2]size

// board is a board, and the saw that cuts it.
type board struct {
	api.Saw
	size size
}

// step is what a board can become: a node, and the parts of it.
type step struct {
	api.Node
	parts parts
}

// boardOf returns a board: the error of CheckSaw, then ErrArg if there is none.
func boardOf(s api.Saw, w, h int) (board, api.Errno) {
	if e := CheckSaw(s); e != api.OK {
		return board{}, e
	}
	if !isSide(w) || !isSide(h) {
		return board{}, api.ErrArg
	}
	return board{s, size{w, h}}, api.OK
}

// boardAndKind returns a board: the error of CheckSaw, then ErrArg if there is none, or no such kind.
func boardAndKind(s api.Saw, w, h, kind int) (board, api.Errno) {
	b, e := boardOf(s, w, h)
	if e == api.OK && !hasKind(s, kind) {
		return board{}, api.ErrArg
	}
	return b, e
}

// isSide reports whether a number is a width or a height.
func isSide(n int) bool { return n >= 1 && n <= api.MaxBoard }

// at returns another board for the same saw.
func (b board) at(s size) board { return board{b.Saw, s} }

// boards yields all boards up to this one, each one behind those that its cuts leave.
func (b board) boards() iter.Seq[board] {
	return func(yield func(board) bool) {
		for w := range b.size[0] {
			for h := range b.size[1] {
				if !yield(b.at(size{w + 1, h + 1})) {
					return
				}
			}
		}
	}
}

// there returns the parts that are there, as boards.
func (b board) there(p parts) []board {
	var l []board
	for _, s := range p {
		if s != (size{}) {
			l = append(l, b.at(s))
		}
	}
	return l
}

// waste asks for nothing but the number 0.
func (b board) waste(at int) (parts, bool) { return parts{}, at == 0 }

// plank asks for a board of the size of a kind.
func (b board) plank(at int) (parts, bool) {
	return parts{}, hasKind(b.Saw, at) && b.size == size{b.Kinds[at].W, b.Kinds[at].H}
}

// turned asks for a board of the size of a kind that may be turned, turned.
func (b board) turned(at int) (parts, bool) {
	return parts{}, hasKind(b.Saw, at) && b.Kinds[at].Turn && b.size == size{b.Kinds[at].H, b.Kinds[at].W}
}

// across asks for a board that is wider than the first part.
func (b board) across(at int) (parts, bool) { return b.cut(0, at) }

// along asks for a board that is higher than the first part.
func (b board) along(at int) (parts, bool) { return b.cut(1, at) }

// cut returns what is left if one side is cut so far from its edge: false if the cut is not inside the board.
func (b board) cut(side, at int) (parts, bool) {
	if at < 1 || at >= b.size[side] {
		return parts{}, false
	}
	p := parts{b.size, b.size}
	p[0][side] = at
	p[1][side] -= at + b.Kerf
	if p[1][side] < 1 {
		p[1] = size{}
	}
	return p, true
}

// ask returns the parts of the board if it becomes a node: false if it cannot.
func (b board) ask(n api.Node) (parts, bool) {
	asks := [...]func(board, int) (parts, bool){
		api.NodeWaste:  board.waste,
		api.NodePlank:  board.plank,
		api.NodeTurned: board.turned,
		api.NodeAcross: board.across,
		api.NodeAlong:  board.along,
	}
	if int(n.Kind) >= len(asks) {
		return parts{}, false
	}
	return asks[n.Kind](b, n.At)
}

// steps yields all that the board can become, in the order of nodes: waste, planks, cuts.
func (b board) steps() iter.Seq[step] {
	numbers := [...]int{
		api.NodeWaste:  1,
		api.NodePlank:  len(b.Kinds),
		api.NodeTurned: len(b.Kinds),
		api.NodeAcross: b.size[0],
		api.NodeAlong:  b.size[1],
	}
	return func(yield func(step) bool) {
		for kind, most := range numbers {
			for at := range most {
				n := api.Node{Kind: uint8(kind), At: at}
				if p, ok := b.ask(n); ok && !yield(step{n, p}) {
					return
				}
			}
		}
	}
}

// isPlank reports whether a node is a plank, turned or not.
func isPlank(n api.Node) bool { return n.Kind == api.NodePlank || n.Kind == api.NodeTurned }

// isOf reports whether a node is a plank of a kind.
func isOf(n api.Node, kind int) bool { return isPlank(n) && n.At == kind }
