package solid

import (
	"iter"

	"strickle/api"
)

// touching yields the cells that touch a cell, itself among them, also beyond the grid.
func touching(c api.Cell) iter.Seq[api.Cell] {
	return func(yield func(api.Cell) bool) {
		for z := c.Z - 1; z <= c.Z+1; z++ {
			for y := c.Y - 1; y <= c.Y+1; y++ {
				for x := c.X - 1; x <= c.X+1; x++ {
					if !yield(api.Cell{X: x, Y: y, Z: z}) {
						return
					}
				}
			}
		}
	}
}

// facing yields the cells that have a face in common with a cell, also beyond the grid.
func facing(c api.Cell) iter.Seq[api.Cell] {
	return func(yield func(api.Cell) bool) {
		for _, by := range [...]int{-1, 1} {
			if !yield(api.Cell{X: c.X + by, Y: c.Y, Z: c.Z}) || !yield(api.Cell{X: c.X, Y: c.Y + by, Z: c.Z}) || !yield(api.Cell{X: c.X, Y: c.Y, Z: c.Z + by}) {
				return
			}
		}
	}
}

// classes returns the classes of the cells of a solid that next leads together, in the order of their first cells.
func classes(s api.Solid, next func(api.Cell) iter.Seq[api.Cell]) []api.Solid {
	rest := s
	var class api.Solid
	var lead func(api.Cell)
	lead = func(c api.Cell) {
		if !Has(rest, c) {
			return
		}
		rest[c.Z] &^= bit(c)
		class[c.Z] |= bit(c)
		for d := range next(c) {
			lead(d)
		}
	}
	var l []api.Solid
	for c := range cells(s) {
		class = api.Solid{}
		lead(c)
		if !isEmpty(class) {
			l = append(l, class)
		}
	}
	return l
}

// Parts returns the parts, in the order of their first cells.
func Parts(s api.Solid) []api.Solid { return classes(s, touching) }

// Cavities returns the cavities, in the order of their first cells.
func Cavities(s api.Solid) []api.Solid {
	var void api.Solid
	for z, plane := range s {
		void[z] = ^plane
	}
	var l []api.Solid
	for _, class := range classes(void, facing) {
		if isWithin(class) {
			l = append(l, class)
		}
	}
	return l
}

// isWithin reports whether no cell is at the border of the grid.
func isWithin(s api.Solid) bool {
	box, _ := Bounds(s)
	return min(box.Low.X, box.Low.Y, box.Low.Z) > 0 && max(box.High.X, box.High.Y, box.High.Z) < last
}

// Euler returns the number of corners, less that of edges, plus that of faces, less that of cells.
func Euler(s api.Solid) int {
	// With all coordinates doubled, corners, edges, faces and cells have points of their own: those of the cell x, y, z are those that touch 2x+1, 2y+1, 2z+1. The more coordinates of a point are odd, the more extent has what it stands for.
	counted := map[api.Cell]bool{}
	number := 0
	for c := range cells(s) {
		for point := range touching(api.Cell{X: 2*c.X + 1, Y: 2*c.Y + 1, Z: 2*c.Z + 1}) {
			if counted[point] {
				continue
			}
			counted[point] = true
			if (point.X+point.Y+point.Z)%2 == 0 {
				number++
			} else {
				number--
			}
		}
	}
	return number
}

// Tunnels returns the number of tunnels.
func Tunnels(s api.Solid) int { return len(Parts(s)) + len(Cavities(s)) - Euler(s) }

// Skin returns the number of faces of cells behind which there is no cell of the solid.
func Skin(s api.Solid) int {
	n := 0
	for c := range cells(s) {
		for behind := range facing(c) {
			if !Has(s, behind) {
				n++
			}
		}
	}
	return n
}
