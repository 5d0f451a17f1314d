package solid

import (
	"iter"
	"slices"

	"strickle/api"
)

// inside yields, by Z, then Y, then X, the moves that place a solid b, which is not empty, inside a solid a, each with what it places.
func inside(a, b api.Solid) iter.Seq2[api.Cell, api.Solid] {
	return func(yield func(api.Cell, api.Solid) bool) {
		room, ok := Bounds(a)
		if !ok {
			return
		}
		box, _ := Bounds(b)
		for z := room.Low.Z - box.Low.Z; z <= room.High.Z-box.High.Z; z++ {
			for y := room.Low.Y - box.Low.Y; y <= room.High.Y-box.High.Y; y++ {
				for x := room.Low.X - box.Low.X; x <= room.High.X-box.High.X; x++ {
					move := api.Cell{X: x, Y: y, Z: z}
					place := shifted(b, move)
					if In(place, a) && !yield(move, place) {
						return
					}
				}
			}
		}
	}
}

// Fits returns the first motion that fits b into a, and whether there is one.
func Fits(a, b api.Solid) (api.Motion, bool) {
	if isEmpty(b) {
		return motionOf(0, api.Cell{X: -last, Y: -last, Z: -last}), true
	}
	var first api.Motion
	found := false
search:
	for turn := range api.Turns {
		for move := range inside(a, turned(b, turn)) {
			first = motionOf(turn, move)
			found = true
			break search
		}
	}
	return first, found
}

// CheckFit reports whether a motion fits b into a.
func CheckFit(a, b api.Solid, m api.Motion) bool {
	place, e := Placed(b, m)
	return e == api.OK && In(place, a)
}

// Places returns, in order and each once, the solids as which motions place b inside a: ErrArg if b is empty.
func Places(a, b api.Solid) ([]api.Solid, api.Errno) {
	if isEmpty(b) {
		return nil, api.ErrArg
	}
	var l []api.Solid
	for _, image := range Images(b) {
		for _, place := range inside(a, image) {
			l = append(l, place)
		}
	}
	return eachOnce(l, compare), api.OK
}

// compare returns a number below 0, 0 or one above 0, if a solid sorts before another one, is the same, or sorts behind it.
func compare(a, b api.Solid) int { return slices.Compare(a[:], b[:]) }

// eachOnce sorts a list and leaves each of its values once.
func eachOnce[T comparable](l []T, compare func(a, b T) int) []T {
	slices.SortFunc(l, compare)
	return slices.Compact(l)
}
