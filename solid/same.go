package solid

import "strickle/api"

// cornered returns a solid moved to the corner.
func cornered(s api.Solid) api.Solid {
	box, _ := Bounds(s)
	return shifted(s, api.Cell{X: -box.Low.X, Y: -box.Low.Y, Z: -box.Low.Z})
}

// Canon returns the least of the images of a solid.
func Canon(s api.Solid) api.Solid {
	least := cornered(s)
	for turn := range api.Turns {
		if image := cornered(turned(s, turn)); compare(image, least) < 0 {
			least = image
		}
	}
	return least
}

// Same reports whether two solids are congruent.
func Same(a, b api.Solid) bool { return Canon(a) == Canon(b) }

// Symmetries returns, ascending, the turns that make of a solid, but for a move, the solid itself.
func Symmetries(s api.Solid) []int {
	itself := cornered(s)
	var l []int
	for turn := range api.Turns {
		if cornered(turned(s, turn)) == itself {
			l = append(l, turn)
		}
	}
	return l
}

// Images returns, in order and each once, the solids that the 24 turns make of a solid, each one moved to the corner.
func Images(s api.Solid) []api.Solid {
	var l []api.Solid
	for turn := range api.Turns {
		l = append(l, cornered(turned(s, turn)))
	}
	return eachOnce(l, compare)
}
