package solid_test

import (
	"slices"
	"testing"

	"strickle/api"
	"strickle/solid"
)

// apart returns by how much the coordinates of two cells differ: the greatest difference, and the sum.
func apart(a, b api.Cell) (most, sum int) {
	x, y, z := a.X-b.X, a.Y-b.Y, a.Z-b.Z
	x, y, z = max(x, -x), max(y, -y), max(z, -z)
	return max(x, y, z), x + y + z
}

// touch reports whether two cells touch.
func touch(a, b api.Cell) bool {
	most, _ := apart(a, b)
	return most <= 1
}

// face reports whether two cells have a face in common.
func face(a, b api.Cell) bool {
	_, sum := apart(a, b)
	return sum == 1
}

// classesOf finds the classes into which cells, in order, are led together: each one gets the least number of its class, until no number changes.
func classesOf(cells []api.Cell, together func(a, b api.Cell) bool) []api.Solid {
	number := make([]int, len(cells))
	for i := range number {
		number[i] = i
	}
	for changed := true; changed; {
		changed = false
		for i, a := range cells {
			for j, b := range cells {
				if number[j] < number[i] && together(a, b) {
					number[i] = number[j]
					changed = true
				}
			}
		}
	}
	var l []api.Solid
	for i := range cells {
		var class []api.Cell
		for j, c := range cells {
			if number[j] == i {
				class = append(class, c)
			}
		}
		if len(class) > 0 {
			l = append(l, made(class...))
		}
	}
	return l
}

// cavitiesOf finds the cavities as their definition says.
func cavitiesOf(x api.Solid) []api.Solid {
	var l []api.Solid
	for _, class := range classesOf(setIn(without(full(), setIn(x).cells()...)).cells(), face) {
		atBorder := func(c api.Cell) bool { return min(c.X, c.Y, c.Z) == 0 || max(c.X, c.Y, c.Z) == 7 }
		if !slices.ContainsFunc(setIn(class).cells(), atBorder) {
			l = append(l, class)
		}
	}
	return l
}

// eulerOf counts corners, edges, faces and cells: each place of the grid that is one is asked whether a cell of the solid is beside it.
func eulerOf(x api.Solid) int {
	s := setIn(x)
	beside := func(n int) []int { // the cells on whose closed side a doubled coordinate lies
		if n%2 == 1 {
			return []int{n / 2}
		}
		return []int{n/2 - 1, n / 2}
	}
	number := 0
	for n := range 17 * 17 * 17 {
		i, j, k := n%17, n/17%17, n/17/17
		has := false
		for _, a := range beside(i) {
			for _, b := range beside(j) {
				for _, c := range beside(k) {
					has = has || s[at(a, b, c)]
				}
			}
		}
		if has && (i%2+j%2+k%2)%2 == 0 { // corners and faces
			number++
		} else if has {
			number--
		}
	}
	return number
}

// skinOf counts the skin, pair by pair.
func skinOf(x api.Solid) int {
	cells := setIn(x).cells()
	n := 6 * len(cells)
	for _, a := range cells {
		for _, b := range cells {
			if face(a, b) {
				n--
			}
		}
	}
	return n
}

func TestB11Parts(t *testing.T) {
	for _, x := range many() {
		want := classesOf(setIn(x).cells(), touch)
		if l := solid.Parts(x); !slices.Equal(l, want) {
			t.Fatalf("Parts(%x): %x, want %x", x, l, want)
		}
	}
	if l := solid.Parts(api.Solid{}); len(l) != 0 {
		t.Errorf("Parts of none: %x", l)
	}
	// The order is that of the first cells: the part with the least cell, not the least solid, is first.
	first, second := made(at(5, 0, 0), at(5, 1, 0)), made(at(1, 0, 1), at(2, 0, 1))
	if l := solid.Parts(solid.Join(second, first)); !slices.Equal(l, []api.Solid{first, second}) {
		t.Errorf("Parts: %x", l)
	}
	low, high := made(at(3, 0, 0), at(3, 1, 0), at(3, 2, 0), at(2, 3, 0)), made(at(5, 0, 0))
	if l := solid.Parts(solid.Join(high, low)); !slices.Equal(l, []api.Solid{low, high}) {
		t.Errorf("Parts: %x", l)
	}
}

func TestB11Touch(t *testing.T) {
	middle := at(3, 4, 3)
	for _, c := range grid() {
		want := 2
		if touch(middle, c) {
			want = 1
		}
		if l := solid.Parts(made(middle, c)); len(l) != want {
			t.Errorf("Parts of %v and %v: %x", middle, c, l)
		}
	}
	// The last cell of a row and the first one of the next row do not touch, nor those of planes.
	for _, x := range []api.Solid{made(at(7, 0, 0), at(0, 1, 0)), made(at(7, 3, 5), at(0, 4, 5)), made(at(3, 7, 0), at(3, 0, 1)), made(at(7, 7, 2), at(0, 0, 3))} {
		if l := solid.Parts(x); len(l) != 2 {
			t.Errorf("Parts(%x): %x", x, l)
		}
	}
}

func TestB11Cavities(t *testing.T) {
	for _, x := range append(many(), holed(20)...) {
		want := cavitiesOf(x)
		if l := solid.Cavities(x); !slices.Equal(l, want) {
			t.Fatalf("Cavities(%x): %x, want %x", x, l, want)
		}
	}
	// Cells that have but an edge or a corner in common are two cavities; one at the border is none.
	for _, x := range []struct {
		cells []api.Cell
		n     int
	}{
		{[]api.Cell{at(3, 3, 3)}, 1},
		{[]api.Cell{at(3, 3, 3), at(4, 3, 3)}, 1},
		{[]api.Cell{at(3, 3, 3), at(4, 4, 3)}, 2},
		{[]api.Cell{at(3, 3, 3), at(4, 4, 4)}, 2},
		{[]api.Cell{at(1, 1, 1), at(6, 6, 6), at(6, 1, 6)}, 3},
		{[]api.Cell{at(0, 3, 3)}, 0}, {[]api.Cell{at(7, 3, 3)}, 0}, {[]api.Cell{at(3, 0, 3)}, 0}, {[]api.Cell{at(3, 7, 3)}, 0}, {[]api.Cell{at(3, 3, 0)}, 0}, {[]api.Cell{at(3, 3, 7)}, 0},
		{[]api.Cell{at(3, 3, 3), at(2, 3, 3), at(1, 3, 3)}, 1},
		{[]api.Cell{at(3, 3, 3), at(2, 3, 3), at(1, 3, 3), at(0, 3, 3)}, 0},
		{[]api.Cell{at(1, 3, 3), at(0, 4, 3)}, 1},
	} {
		if l := solid.Cavities(without(full(), x.cells...)); len(l) != x.n {
			t.Errorf("Cavities of the grid without %v: %x", x.cells, l)
		}
	}
}

// holed returns n solids that have all cells of the grid but a few ones, the same ones each time.
func holed(n int) []api.Solid {
	var l []api.Solid
	for i, x := range small(3 * n)[:n] {
		y := drawn(n)[i]
		l = append(l, without(full(), setIn(x).cells()...), without(full(), setIn(solid.Less(y, x)).cells()...))
	}
	return l
}

func TestB12Numbers(t *testing.T) {
	for _, x := range append(many(), holed(20)...) {
		euler := eulerOf(x)
		if n := solid.Euler(x); n != euler {
			t.Fatalf("Euler(%x): %d, want %d", x, n, euler)
		}
		tunnels := len(classesOf(setIn(x).cells(), touch)) + len(cavitiesOf(x)) - euler
		if n := solid.Tunnels(x); n != tunnels {
			t.Fatalf("Tunnels(%x): %d, want %d", x, n, tunnels)
		}
		if n := solid.Skin(x); n != skinOf(x) {
			t.Fatalf("Skin(%x): %d, want %d", x, n, skinOf(x))
		}
	}
	for _, x := range []struct {
		x                    api.Solid
		euler, tunnels, skin int
	}{
		{api.Solid{}, 0, 0, 0},
		{made(at(7, 7, 7)), 1, 0, 6},
		{ring(), 0, 1, 32},
		{hollow(), 2, 0, 60},
		{full(), 1, 0, 384},
		{ell(), 1, 0, 18},
		{made(at(0, 0, 0), at(7, 7, 7)), 2, 0, 12},
		{made(at(0, 0, 0), at(1, 1, 1)), 1, 0, 12},
		{made(at(0, 0, 0), at(2, 0, 0), at(1, 1, 0), at(1, 7, 0)), 2, 0, 24},
		{without(blockOf(box(0, 0, 0, 4, 2, 0)), at(1, 1, 0), at(3, 1, 0)), -1, 2, 50},
		{made(at(1, 0, 0), at(0, 1, 0), at(2, 1, 0), at(1, 2, 0)), 0, 1, 24},
	} {
		if solid.Euler(x.x) != x.euler || solid.Tunnels(x.x) != x.tunnels || solid.Skin(x.x) != x.skin {
			t.Errorf("Euler, Tunnels and Skin of %x: %d, %d, %d, want %d, %d, %d", x.x, solid.Euler(x.x), solid.Tunnels(x.x), solid.Skin(x.x), x.euler, x.tunnels, x.skin)
		}
	}
}

// P2.5: tunnels are never fewer than 0; congruent solids, and mirrored ones, have the same shape.
func TestP25Shape(t *testing.T) {
	for _, x := range slices.Concat(shapes(), drawn(30), small(20), holed(8)) {
		want := shapeOf(x)
		if want.tunnels < 0 || want.skin%2 != 0 {
			t.Fatalf("%x: %+v", x, want)
		}
		for turn := 0; turn < 24; turn += 5 {
			if y := image(x, turn); shapeOf(y) != want {
				t.Fatalf("%x: %+v, but %x: %+v", x, want, y, shapeOf(y))
			}
		}
		for axis := range 3 {
			y, e := solid.Mirrored(x, axis)
			if shapeOf(y) != want || e != api.OK {
				t.Fatalf("%x: %+v, but mirrored %x: %+v", x, want, y, shapeOf(y))
			}
		}
	}
}

// P2.5: parts have each cell once; no cell of one part touches one of another. The Euler number and the skin are the sums of those of the parts.
func TestP25Parts(t *testing.T) {
	several := 0
	for _, x := range slices.Concat(many(), holed(8)) {
		var all api.Solid
		euler, skin := 0, 0
		parts := solid.Parts(x)
		for i, part := range parts {
			if part == (api.Solid{}) || solid.Meet(all, part) != (api.Solid{}) {
				t.Fatalf("Parts(%x): %x", x, parts)
			}
			for _, other := range parts[:i] {
				for _, c := range solid.Cells(part) {
					if slices.ContainsFunc(solid.Cells(other), func(d api.Cell) bool { return touch(c, d) }) {
						t.Fatalf("Parts(%x): %x touches %x", x, part, other)
					}
				}
			}
			if l := solid.Parts(part); len(l) != 1 || l[0] != part {
				t.Fatalf("Parts(%x): %x", part, l)
			}
			all = solid.Join(all, part)
			euler += solid.Euler(part)
			skin += solid.Skin(part)
		}
		if all != x || euler != solid.Euler(x) || skin != solid.Skin(x) {
			t.Fatalf("%x: Euler %d, skin %d; of its parts together %x: %d, %d", x, solid.Euler(x), solid.Skin(x), all, euler, skin)
		}
		if len(parts) > 1 {
			several++
		}
	}
	if several < 20 {
		t.Errorf("only %d solids have several parts", several)
	}
}

// P2.8: the cavities are apart from the solid; with them it has no cavities, and each of its parts lies in one of the parts then.
func TestP28Filled(t *testing.T) {
	hollowOnes := 0
	for _, x := range slices.Concat(many(), holed(30)) {
		filled := x
		for _, cavity := range solid.Cavities(x) {
			if cavity == (api.Solid{}) || solid.Meet(cavity, filled) != (api.Solid{}) {
				t.Fatalf("Cavities(%x): %x", x, solid.Cavities(x))
			}
			filled = solid.Join(filled, cavity)
		}
		if filled != x {
			hollowOnes++
		}
		if l := solid.Cavities(filled); len(l) != 0 {
			t.Fatalf("%x, filled: %x, has cavities: %x", x, filled, l)
		}
		parts := solid.Parts(filled)
		for _, part := range solid.Parts(x) {
			if !slices.ContainsFunc(parts, func(p api.Solid) bool { return solid.In(part, p) }) {
				t.Fatalf("%x, filled: the parts %x, in none of which is %x", x, parts, part)
			}
		}
	}
	if hollowOnes < 20 {
		t.Errorf("only %d solids have cavities", hollowOnes)
	}
}
