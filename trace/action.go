package trace

import (
	"cmp"
	"slices"

	"strickle/api"
	"strickle/solid"
)

// deed is what an action does to its pattern; of which kind it is, its type says.
type deed interface {
	// touched returns the cells of the action.
	touched() api.Solid
}

// cutting is the deed of a cut.
type cutting struct{ wood api.Solid }

func (c cutting) touched() api.Solid { return c.wood }

// kept is a kept piece: its bit of the pieces that are on, and its cells.
type kept struct {
	bit  uint8
	wood api.Solid
}

func (k kept) touched() api.Solid { return k.wood }

// isOn reports whether the piece is on at a stand.
func (k kept) isOn(s api.Stand) bool { return s.On&k.bit != 0 }

// fitting and taking are the deeds by which a kept piece is fitted and taken off.
type (
	fitting struct{ kept }
	taking  struct{ kept }
)

// isEmpty reports whether a solid has no cell.
func isEmpty(s api.Solid) bool { return s == api.Solid{} }

// isAction reports whether an action is as the chapter says, for a pattern with so many pieces.
func isAction(a api.Action, pieces int) bool {
	switch a.Kind {
	case api.ActCut:
		return a.Piece == 0 && !isEmpty(a.Cells)
	case api.ActFit, api.ActTake:
		return a.Piece >= 0 && a.Piece < pieces && isEmpty(a.Cells)
	}
	return false
}

// deedOf returns the deed of an action of a pattern.
func deedOf(p api.Pattern, a api.Action) deed {
	if a.Kind == api.ActCut {
		return cutting{a.Cells}
	}
	piece := kept{bit: 1 << a.Piece, wood: p.Pieces[a.Piece]}
	if a.Kind == api.ActFit {
		return fitting{piece}
	}
	return taking{piece}
}

// refusal returns why a deed is not possible at a stand: OK if it is.
func refusal(s api.Stand, d deed) api.Errno {
	switch d := d.(type) {
	case fitting:
		if d.isOn(s) {
			return api.ErrPiece
		}
		if !isEmpty(solid.Meet(d.touched(), s.Wood)) {
			return api.ErrPlace
		}
		return api.OK
	case taking:
		if !d.isOn(s) {
			return api.ErrPiece
		}
	}
	// What is cut or taken off must be wood.
	if !solid.In(d.touched(), s.Wood) {
		return api.ErrCut
	}
	return api.OK
}

// after returns the stand that a possible action of a pattern makes of a stand.
func after(s api.Stand, p api.Pattern, a api.Action) api.Stand {
	effects := [...]func(cells api.Solid) api.Stand{
		api.ActCut: func(cells api.Solid) api.Stand {
			return api.Stand{Wood: solid.Less(s.Wood, cells), On: s.On}
		},
		api.ActFit: func(cells api.Solid) api.Stand {
			return api.Stand{Wood: solid.Join(s.Wood, cells), On: s.On | 1<<a.Piece}
		},
		api.ActTake: func(cells api.Solid) api.Stand {
			return api.Stand{Wood: solid.Less(s.Wood, cells), On: s.On &^ (1 << a.Piece)}
		},
	}
	return effects[a.Kind](deedOf(p, a).touched())
}

// independent reports whether no cell is one of both actions of a pattern.
func independent(p api.Pattern, a, b api.Action) bool {
	return isEmpty(solid.Meet(deedOf(p, a).touched(), deedOf(p, b).touched()))
}

// opposite reports whether one of two actions fits a piece, and the other one takes it off.
func opposite(a, b api.Action) bool {
	return a.Piece == b.Piece && min(a.Kind, b.Kind) == api.ActFit && max(a.Kind, b.Kind) == api.ActTake
}

// compare returns a number below 0, 0 or one above 0, if an action sorts before another one, is the same, or sorts behind it.
func compare(a, b api.Action) int {
	return cmp.Or(cmp.Compare(a.Kind, b.Kind), cmp.Compare(a.Piece, b.Piece), slices.Compare(a.Cells[:], b.Cells[:]))
}
