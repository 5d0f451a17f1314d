package solid_test

import (
	"slices"
	"testing"

	"strickle/api"
	"strickle/solid"
)

// P2.1: the chapter's table of examples.
func TestP21Examples(t *testing.T) {
	if solid.Write(ring()) != "70507" || solid.Write(ell()) != "107" || solid.Count(ring()) != 8 {
		t.Errorf("Write: %q, %q, Count: %d", solid.Write(ring()), solid.Write(ell()), solid.Count(ring()))
	}
	if b, ok := solid.Bounds(ell()); b != box(0, 0, 0, 2, 1, 0) || !ok {
		t.Errorf("Bounds(L): %v, %v", b, ok)
	}
	if x, e := solid.Turned(ell(), 1); x != made(at(7, 0, 0), at(7, 1, 0), at(7, 2, 0), at(6, 0, 0)) || e != api.OK {
		t.Errorf("Turned(L, 1): %v, error %d", solid.Cells(x), e)
	}
	if x, e := solid.Turned(ell(), 4); x != made(at(0, 7, 0), at(1, 7, 0), at(2, 7, 0), at(0, 7, 1)) || e != api.OK {
		t.Errorf("Turned(L, 4): %v, error %d", solid.Cells(x), e)
	}
	if x, e := solid.Placed(ell(), api.Motion{Turn: 1, X: -5}); x != made(at(2, 0, 0), at(2, 1, 0), at(2, 2, 0), at(1, 0, 0)) || e != api.OK {
		t.Errorf("Placed(L): %v, error %d", solid.Cells(x), e)
	}
	if m, e := solid.Then(api.Motion{Turn: 1, X: 2}, api.Motion{Turn: 1}); m != (api.Motion{Turn: 2, Y: 2}) || e != api.OK {
		t.Errorf("Then: %v, error %d", m, e)
	}
	if m, e := solid.Back(api.Motion{Turn: 1, X: 2}); m != (api.Motion{Turn: 3, Y: 2}) || e != api.OK {
		t.Errorf("Back: %v, error %d", m, e)
	}
	if m, ok := solid.Fits(ring(), ell()); !ok || !solid.CheckFit(ring(), ell(), m) {
		t.Errorf("Fits(R, L): %v, %v", m, ok)
	}
	if m, ok := solid.Fits(ell(), ring()); ok || m != (api.Motion{}) {
		t.Errorf("Fits(L, R): %v, %v", m, ok)
	}
}

// P2.1: the chapter's table of examples, where it is about the shapes of solids.
func TestP21ExamplesOfShapes(t *testing.T) {
	if m, e := solid.Mirrored(ell(), 0); !solid.Same(ell(), m) || e != api.OK {
		t.Errorf("Same(L, mirrored): false, error %d", e)
	}
	if l := solid.Symmetries(ell()); !slices.Equal(l, []int{0}) || len(solid.Images(ell())) != 24 {
		t.Errorf("Symmetries(L): %v, %d images", l, len(solid.Images(ell())))
	}
	if l := solid.Symmetries(ring()); !slices.Equal(l, []int{0, 1, 2, 3, 8, 9, 10, 11}) || len(solid.Images(ring())) != 3 {
		t.Errorf("Symmetries(R): %v, %d images", l, len(solid.Images(ring())))
	}
	if s := shapeOf(ring()); s != (shape{8, 1, 0, 1, 32}) || solid.Euler(ring()) != 0 {
		t.Errorf("R: %+v, Euler %d", s, solid.Euler(ring()))
	}
	if s := shapeOf(hollow()); s != (shape{26, 1, 1, 0, 60}) || solid.Euler(hollow()) != 2 {
		t.Errorf("a hollow block: %+v, Euler %d", s, solid.Euler(hollow()))
	}
	corners := made(at(0, 0, 0), at(1, 1, 1))
	if len(solid.Parts(corners)) != 1 || solid.Euler(corners) != 1 {
		t.Errorf("two cells: %d parts, Euler %d", len(solid.Parts(corners)), solid.Euler(corners))
	}
	for _, s := range []string{"0107", "107.0"} {
		if x, e := solid.Read(s); x != (api.Solid{}) || e != api.ErrForm {
			t.Errorf("Read(%q): %x, error %d", s, x, e)
		}
	}
	if x, e := solid.Read("107.1"); x != with(ell(), at(0, 0, 1)) || e != api.OK {
		t.Errorf("Read: %x, error %d", x, e)
	}
}

// P2.1 with rule R3: results are new memory, and arguments stay as they are.
func TestP21NewMemory(t *testing.T) {
	cells := []api.Cell{at(2, 0, 0), at(0, 0, 0), at(1, 1, 0), at(2, 0, 0)}
	kept := slices.Clone(cells)
	if x, e := solid.Of(cells); x != made(kept...) || e != api.OK || !slices.Equal(cells, kept) {
		t.Errorf("Of: %x, error %d, and the cells are %v", x, e, cells)
	}
	x := made(at(0, 0, 0), at(3, 3, 3))
	for range 3 {
		cells, parts, images, symmetries := solid.Cells(x), solid.Parts(x), solid.Images(ring()), solid.Symmetries(ring())
		places, e := solid.Places(ring(), made(at(0, 0, 0)))
		cavities := solid.Cavities(without(full(), at(2, 2, 2)))
		if len(cells) != 2 || len(parts) != 2 || len(images) != 3 || len(symmetries) != 8 || len(places) != 8 || e != api.OK || len(cavities) != 1 {
			t.Fatalf("%v, %x, %x, %v, %x, error %d, %x", cells, parts, images, symmetries, places, e, cavities)
		}
		if cells[0] != at(0, 0, 0) || parts[1] != made(at(3, 3, 3)) || images[2] != ring() || symmetries[7] != 11 || places[0] != made(at(0, 0, 0)) || cavities[0] != made(at(2, 2, 2)) {
			t.Fatalf("%v, %x, %x, %v, %x, %x", cells, parts, images, symmetries, places, cavities)
		}
		clear(cells)
		clear(parts)
		clear(images)
		clear(symmetries)
		clear(places)
		clear(cavities)
	}
}

// T2: what fits into a solid that fits into a third one fits into that one; solids that fit into each other are congruent, and have one canonical form.
func TestT2(t *testing.T) {
	row, plate := blockOf(box(0, 0, 0, 2, 0, 0)), blockOf(box(5, 6, 2, 6, 6, 4))
	cube := blockOf(box(4, 4, 4, 6, 6, 6))
	for _, x := range [][2]api.Solid{{plate, row}, {cube, plate}, {cube, row}} {
		if _, ok := solid.Fits(x[0], x[1]); !ok {
			t.Errorf("%x does not fit into %x", x[1], x[0])
		}
		if _, ok := solid.Fits(x[1], x[0]); ok || solid.Same(x[0], x[1]) || solid.Canon(x[0]) == solid.Canon(x[1]) {
			t.Errorf("%x fits into %x, or is the same", x[0], x[1])
		}
	}
	for _, a := range append(small(12), hand(), plate) {
		for _, b := range somewhere(a) {
			m, there := solid.Fits(a, b)
			_, back := solid.Fits(b, a)
			place, e := solid.Placed(b, m)
			if !there || !back || place != a || e != api.OK || !solid.Same(a, b) || solid.Canon(a) != solid.Canon(b) {
				t.Fatalf("%x and %x: fits %v and %v, placed %x, Same %v", a, b, there, back, place, solid.Same(a, b))
			}
		}
	}
}
