package solid

import "strickle/api"

// frame is what turns keep in its place: they replace a coordinate by itself or by frame less it. So it is last for cells, and 0 for moves, which have a direction but no place.
type frame int

// The rolls of a frame, numbered as in the chapter.

func (f frame) roll0(c api.Cell) api.Cell { return c }

func (f frame) roll1(c api.Cell) api.Cell { return api.Cell{X: c.X, Y: int(f) - c.Z, Z: c.Y} }

func (f frame) roll2(c api.Cell) api.Cell { return api.Cell{X: c.X, Y: int(f) - c.Y, Z: int(f) - c.Z} }

func (f frame) roll3(c api.Cell) api.Cell { return api.Cell{X: c.X, Y: c.Z, Z: int(f) - c.Y} }

func (f frame) roll4(c api.Cell) api.Cell { return api.Cell{X: c.Z, Y: c.Y, Z: int(f) - c.X} }

func (f frame) roll5(c api.Cell) api.Cell { return api.Cell{X: int(f) - c.Z, Y: c.Y, Z: c.X} }

// upright turns a cell once about the upright axis.
func (f frame) upright(c api.Cell) api.Cell { return api.Cell{X: int(f) - c.Y, Y: c.X, Z: c.Z} }

// turn returns where a turn, a number from 0 to 23, takes a cell or a move.
func (f frame) turn(c api.Cell, turn int) api.Cell {
	rolls := [...]func(api.Cell) api.Cell{f.roll0, f.roll1, f.roll2, f.roll3, f.roll4, f.roll5}
	c = rolls[turn/4](c)
	for range turn % 4 {
		c = f.upright(c)
	}
	return c
}

// turnTo returns the turn that takes one move to another one. The moves have three different distances, so that at most one turn does.
func turnTo(from, to api.Cell) int {
	turn := 0
	for frame(0).turn(from, turn) != to {
		turn++
	}
	return turn
}

// lopsided is a move that each turn takes to another one.
func lopsided() api.Cell { return api.Cell{X: 1, Y: 2, Z: 3} }

// isTurn reports whether a number is a turn.
func isTurn(turn int) bool { return turn >= 0 && turn < api.Turns }

// isMove reports whether the coordinates of a move are as the chapter says.
func isMove(move api.Cell) bool {
	return move.X >= -last && move.X <= last && move.Y >= -last && move.Y <= last && move.Z >= -last && move.Z <= last
}

// moveOf returns the move of a motion.
func moveOf(m api.Motion) api.Cell { return api.Cell{X: m.X, Y: m.Y, Z: m.Z} }

// motionOf returns the motion with a turn and a move.
func motionOf(turn int, move api.Cell) api.Motion {
	return api.Motion{Turn: turn, X: move.X, Y: move.Y, Z: move.Z}
}

// isMotion reports whether the numbers of a motion are as the chapter says.
func isMotion(m api.Motion) bool { return isTurn(m.Turn) && isMove(moveOf(m)) }

// turned returns a solid with a turn, a number from 0 to 23.
func turned(s api.Solid, turn int) api.Solid {
	var t api.Solid
	for c := range cells(s) {
		to := frame(last).turn(c, turn)
		t[to.Z] |= bit(to)
	}
	return t
}

// shifted returns a solid moved by numbers with which no cell leaves the grid.
func shifted(s api.Solid, move api.Cell) api.Solid {
	by := api.MaxSide*move.Y + move.X
	var t api.Solid
	for z, plane := range s {
		switch {
		case plane == 0: // it may leave the grid
		case by < 0:
			t[z+move.Z] = plane >> -by
		default:
			t[z+move.Z] = plane << by
		}
	}
	return t
}

// Turned returns a solid with a turn: ErrArg if the number is no turn.
func Turned(s api.Solid, turn int) (api.Solid, api.Errno) {
	if !isTurn(turn) {
		return api.Solid{}, api.ErrArg
	}
	return turned(s, turn), api.OK
}

// Moved returns a solid moved by any numbers: ErrOut if a cell leaves the grid.
func Moved(s api.Solid, x, y, z int) (api.Solid, api.Errno) {
	box, ok := Bounds(s)
	if !ok {
		return s, api.OK
	}
	// A sum of a coordinate and any number may be too great for an int, so each number is held against the room that there is.
	if x < -box.Low.X || y < -box.Low.Y || z < -box.Low.Z || x > last-box.High.X || y > last-box.High.Y || z > last-box.High.Z {
		return api.Solid{}, api.ErrOut
	}
	return shifted(s, api.Cell{X: x, Y: y, Z: z}), api.OK
}

// Mirrored returns the cells with X, Y or Z replaced by 7 less it: ErrArg if the number is no axis.
func Mirrored(s api.Solid, axis int) (api.Solid, api.Errno) {
	if axis < 0 || axis > 2 {
		return api.Solid{}, api.ErrArg
	}
	var t api.Solid
	for c := range cells(s) {
		switch axis {
		case 0:
			c.X = last - c.X
		case 1:
			c.Y = last - c.Y
		case 2:
			c.Z = last - c.Z
		}
		t[c.Z] |= bit(c)
	}
	return t, api.OK
}

// Placed returns what a motion places: ErrArg if it is none, ErrOut if a cell leaves the grid.
func Placed(s api.Solid, m api.Motion) (api.Solid, api.Errno) {
	if !isMotion(m) {
		return api.Solid{}, api.ErrArg
	}
	return Moved(turned(s, m.Turn), m.X, m.Y, m.Z)
}

// Then returns the motion that does what m and then n do: ErrArg if one is none, ErrOut if a coordinate of the move is too great.
func Then(m, n api.Motion) (api.Motion, api.Errno) {
	if !isMotion(m) || !isMotion(n) {
		return api.Motion{}, api.ErrArg
	}
	move := frame(0).turn(moveOf(m), n.Turn)
	move = api.Cell{X: move.X + n.X, Y: move.Y + n.Y, Z: move.Z + n.Z}
	if !isMove(move) {
		return api.Motion{}, api.ErrOut
	}
	once := frame(0).turn(lopsided(), m.Turn)
	twice := frame(0).turn(once, n.Turn)
	return motionOf(turnTo(lopsided(), twice), move), api.OK
}

// Back returns the motion that takes m back: ErrArg if it is none.
func Back(m api.Motion) (api.Motion, api.Errno) {
	if !isMotion(m) {
		return api.Motion{}, api.ErrArg
	}
	turn := turnTo(frame(0).turn(lopsided(), m.Turn), lopsided())
	move := api.Cell{X: -m.X, Y: -m.Y, Z: -m.Z}
	return motionOf(turn, frame(0).turn(move, turn)), api.OK
}
