package solid_test

import (
	"slices"
	"testing"

	"strickle/api"
	"strickle/solid"
)

// imagesOf finds the images as their definition says.
func imagesOf(x api.Solid) []api.Solid {
	var l []api.Solid
	for turn := range 24 {
		l = append(l, image(x, turn))
	}
	return sorted(l)
}

// somewhere returns what motions make of a solid: some that keep it in the grid, among them all turns.
func somewhere(x api.Solid) []api.Solid {
	var l []api.Solid
	for _, m := range motions(96) {
		if y, ok := setIn(x).mapped(func(c api.Cell) api.Cell { return placedCell(c, m) }).solid(); ok {
			l = append(l, y)
		}
	}
	for turn := range 24 {
		l = append(l, image(x, turn))
	}
	return l
}

// mirrorOf returns a solid mirrored by an axis, by the chapter's words.
func mirrorOf(x api.Solid, axis int) api.Solid {
	return made(setIn(x).mapped(func(c api.Cell) api.Cell {
		return []api.Cell{at(7-c.X, c.Y, c.Z), at(c.X, 7-c.Y, c.Z), at(c.X, c.Y, 7-c.Z)}[axis]
	}).cells()...)
}

func TestB9Canon(t *testing.T) {
	for _, x := range many() {
		want := imagesOf(x)[0]
		if y := solid.Canon(x); y != want {
			t.Fatalf("Canon(%x): %x, want %x", x, y, want)
		}
	}
	for _, x := range []struct{ x, want api.Solid }{
		{api.Solid{}, api.Solid{}},
		{made(at(4, 5, 6)), api.Solid{1}},
		{blockOf(box(2, 5, 7, 4, 5, 7)), api.Solid{1, 1, 1}},
		{blockOf(box(0, 0, 0, 7, 7, 0)), api.Solid{0xff, 0xff, 0xff, 0xff, 0xff, 0xff, 0xff, 0xff}},
		{full(), full()},
	} {
		if y := solid.Canon(x.x); y != x.want {
			t.Errorf("Canon(%x): %x, want %x", x.x, y, x.want)
		}
	}
}

func TestB9Same(t *testing.T) {
	l := slices.Concat(shapes(), drawn(10), small(20))
	same := 0
	for _, a := range l {
		images := imagesOf(a)
		for _, b := range l {
			want := slices.Contains(images, image(b, 0))
			if ok := solid.Same(a, b); ok != want {
				t.Fatalf("Same(%x, %x): %v", a, b, ok)
			}
			if want {
				same++
			}
		}
		for _, b := range somewhere(a) {
			if !solid.Same(a, b) || !solid.Same(b, a) {
				t.Fatalf("Same(%x, %x): false", a, b)
			}
		}
	}
	if same < len(l)+4 {
		t.Errorf("only %d pairs are congruent", same)
	}
	for axis := range 3 {
		if m := mirrorOf(hand(), axis); solid.Same(hand(), m) || solid.Same(m, hand()) {
			t.Errorf("a hand is the same as its mirrored one by the axis %d", axis)
		}
		if m := mirrorOf(ell(), axis); !solid.Same(ell(), m) {
			t.Errorf("an L is not the same as its mirrored one by the axis %d", axis)
		}
	}
}

func TestB10Symmetries(t *testing.T) {
	for _, x := range many() {
		var want []int
		for turn := range 24 {
			if image(x, turn) == image(x, 0) {
				want = append(want, turn)
			}
		}
		if l := solid.Symmetries(x); !slices.Equal(l, want) {
			t.Fatalf("Symmetries(%x): %v, want %v", x, l, want)
		}
	}
	for _, x := range []struct {
		x api.Solid
		n int
	}{{api.Solid{}, 24}, {full(), 24}, {hollow(), 24}, {made(at(7, 0, 7)), 24}, {ring(), 8}, {ell(), 1}, {hand(), 1}, {blockOf(box(0, 0, 0, 2, 1, 0)), 4}, {made(at(0, 0, 0), at(7, 7, 7)), 6}} {
		if l := solid.Symmetries(x.x); len(l) != x.n {
			t.Errorf("Symmetries(%x): %v, want %d of them", x.x, l, x.n)
		}
	}
}

func TestB10Images(t *testing.T) {
	for _, x := range many() {
		if l := solid.Images(x); !slices.Equal(l, imagesOf(x)) {
			t.Fatalf("Images(%x): %x, want %x", x, l, imagesOf(x))
		}
	}
	if l := solid.Images(api.Solid{}); !slices.Equal(l, []api.Solid{{}}) {
		t.Errorf("Images of none: %x", l)
	}
	if l := solid.Images(blockOf(box(5, 6, 7, 7, 6, 7))); !slices.Equal(l, []api.Solid{{1, 1, 1}, {7}, {0x10101}}) {
		t.Errorf("Images of a row: %x", l)
	}
}

// P2.3: two solids are congruent exactly if each fits into the other one, and exactly if they have the same Canon.
func TestP23BothWays(t *testing.T) {
	l := slices.Concat(shapes(), drawn(8), small(24))
	for _, x := range small(6) {
		l = append(l, somewhere(x)[:3]...)
		l = append(l, mirrorOf(x, 1))
	}
	for axis := range 3 {
		l = append(l, mirrorOf(hand(), axis))
	}
	same := 0
	for i, a := range l {
		for j, b := range l {
			_, there := solid.Fits(a, b)
			_, back := solid.Fits(b, a)
			both := there && back
			if solid.Same(a, b) != both || (solid.Canon(a) == solid.Canon(b)) != both {
				t.Fatalf("%x and %x: each fits into the other one: %v, Same: %v", a, b, both, solid.Same(a, b))
			}
			if both && i != j {
				same++
			}
		}
	}
	if same < 20 {
		t.Errorf("only %d pairs are congruent", same)
	}
}

// P2.4: the number of Images times that of Symmetries is 24; each image has the same Canon and the same number of symmetries.
func TestP24Orbits(t *testing.T) {
	for _, x := range many() {
		images, symmetries := solid.Images(x), solid.Symmetries(x)
		if len(images)*len(symmetries) != 24 {
			t.Fatalf("%x: %d images, %d symmetries", x, len(images), len(symmetries))
		}
		for _, y := range images {
			if solid.Canon(y) != solid.Canon(x) || len(solid.Symmetries(y)) != len(symmetries) {
				t.Fatalf("%x and its image %x: Canon %x and %x, symmetries %v and %v", x, y, solid.Canon(x), solid.Canon(y), symmetries, solid.Symmetries(y))
			}
		}
	}
}
