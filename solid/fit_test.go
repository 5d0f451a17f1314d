package solid_test

import (
	"slices"
	"testing"

	"strickle/api"
	"strickle/solid"
)

// allFits finds the motions that fit b into a, in the chapter's order, as the definition says: each one is tried. It returns what each one places too.
func allFits(a, b api.Solid) (fits []api.Motion, places []api.Solid) {
	for turn := range 24 {
		turned := setIn(b).mapped(func(c api.Cell) api.Cell { return turnedCell(c, turn, 7) }).cells()
		for z := -7; z <= 7; z++ {
			for y := -7; y <= 7; y++ {
			move:
				for x := -7; x <= 7; x++ {
					var place api.Solid
					for _, c := range turned {
						c = moved(c, x, y, z)
						if !isCell(c) || a[c.Z]>>(8*c.Y+c.X)&1 == 0 {
							continue move
						}
						place[c.Z] |= 1 << (8*c.Y + c.X)
					}
					fits = append(fits, api.Motion{Turn: turn, X: x, Y: y, Z: z})
					places = append(places, place)
				}
			}
		}
	}
	return fits, sorted(places)
}

// bigOnes are solids into which others may fit.
func bigOnes() []api.Solid {
	return slices.Concat([]api.Solid{{}, ring(), ell(), hollow(), hand(), full(), blockOf(box(0, 0, 0, 2, 1, 0)), blockOf(box(3, 4, 5, 7, 6, 7)), blockOf(box(1, 1, 1, 1, 1, 7))}, drawn(14), small(8))
}

// fewCells are solids, not empty, that may fit into others.
func fewCells() []api.Solid {
	return slices.Concat([]api.Solid{ring(), ell(), hollow(), hand(), made(at(7, 7, 7)), blockOf(box(0, 0, 0, 2, 1, 0)), made(at(0, 0, 0), at(1, 1, 1)), made(at(0, 0, 0), at(7, 7, 7)), blockOf(box(0, 0, 0, 0, 7, 0))}, small(8))
}

// B7, B8 and P2.7: Fits, CheckFit and Places say of each pair what trying each motion says.
func TestB7B8All(t *testing.T) {
	fit, not := 0, 0
	for _, a := range bigOnes() {
		for _, b := range fewCells() {
			fits, places := allFits(a, b)
			m, ok := solid.Fits(a, b)
			l, e := solid.Places(a, b)
			if !slices.Equal(l, places) || e != api.OK {
				t.Fatalf("Places(%x, %x): %x, error %d, want %x", a, b, l, e, places)
			}
			if len(fits) == 0 {
				not++
				if m != (api.Motion{}) || ok {
					t.Fatalf("Fits(%x, %x): %v, %v, want none", a, b, m, ok)
				}
				continue
			}
			fit++
			if m != fits[0] || !ok || !solid.CheckFit(a, b, m) {
				t.Fatalf("Fits(%x, %x): %v, %v, want %v", a, b, m, ok, fits[0])
			}
		}
	}
	if fit < 100 || not < 100 {
		t.Errorf("%d pairs fit, %d do not", fit, not)
	}
}

// The first motion is the first one by Turn, then Z, then Y, then X.
func TestB7First(t *testing.T) {
	for _, x := range []struct {
		a, b api.Solid
		want api.Motion
	}{
		{full(), made(at(0, 0, 0)), api.Motion{}},
		{full(), made(at(7, 7, 7)), api.Motion{X: -7, Y: -7, Z: -7}},
		{made(at(7, 0, 0), at(0, 7, 0), at(0, 0, 7)), made(at(0, 0, 0)), api.Motion{X: 7}},
		{made(at(0, 7, 0), at(0, 0, 7)), made(at(0, 0, 0)), api.Motion{Y: 7}},
		{made(at(0, 0, 7)), made(at(0, 0, 0)), api.Motion{Z: 7}},
		{made(at(5, 1, 0), at(2, 1, 0)), made(at(3, 0, 0)), api.Motion{X: -1, Y: 1}},
		{ring(), ell(), api.Motion{}},
		{blockOf(box(0, 0, 0, 0, 7, 0)), blockOf(box(0, 0, 0, 7, 0, 0)), api.Motion{Turn: 1, X: -7}},
		{blockOf(box(0, 0, 0, 0, 0, 7)), blockOf(box(0, 0, 0, 7, 0, 0)), api.Motion{Turn: 16}},
	} {
		if m, ok := solid.Fits(x.a, x.b); m != x.want || !ok {
			t.Errorf("Fits(%x, %x): %v, %v, want %v", x.a, x.b, m, ok, x.want)
		}
	}
}

func TestB7Empty(t *testing.T) {
	corner := api.Motion{X: -7, Y: -7, Z: -7}
	for _, a := range []api.Solid{{}, ell(), full()} {
		if m, ok := solid.Fits(a, api.Solid{}); m != corner || !ok {
			t.Errorf("Fits(%x, none): %v, %v", a, m, ok)
		}
		for _, m := range motions(100) {
			if !solid.CheckFit(a, api.Solid{}, m) {
				t.Errorf("CheckFit(%x, none, %v): false", a, m)
			}
		}
	}
	if m, ok := solid.Fits(api.Solid{}, ell()); m != (api.Motion{}) || ok {
		t.Errorf("Fits(none, L): %v, %v", m, ok)
	}
}

func TestB7CheckFit(t *testing.T) {
	fit := 0
	for _, a := range append(bigOnes(), blockOf(box(2, 2, 2, 6, 7, 5))) {
		for _, b := range append(fewCells(), a) {
			for _, m := range append(motions(60), api.Motion{}) {
				want := setIn(b).mapped(func(c api.Cell) api.Cell { return placedCell(c, m) }).in(setIn(a))
				if ok := solid.CheckFit(a, b, m); ok != want {
					t.Fatalf("CheckFit(%x, %x, %v): %v", a, b, m, ok)
				}
				if want {
					fit++
				}
			}
		}
	}
	if fit < 300 {
		t.Errorf("only %d motions fit", fit)
	}
	for _, m := range wrongMotions() {
		for _, b := range []api.Solid{{}, ell(), full()} {
			if solid.CheckFit(full(), b, m) {
				t.Errorf("CheckFit(%x, %v): true", b, m)
			}
		}
	}
}

func TestB8Places(t *testing.T) {
	one := made(at(5, 6, 7))
	l, e := solid.Places(full(), one)
	if len(l) != 512 || e != api.OK {
		t.Errorf("Places of a cell: %d, error %d", len(l), e)
	}
	for i, c := range grid() {
		if i < len(l) && !slices.Contains(l, made(c)) {
			t.Errorf("Places of a cell: not %v", c)
		}
	}
	// A plane sorts ahead of the planes above it: solids without its cells come first.
	if l, e := solid.Places(made(at(0, 0, 0), at(7, 7, 0), at(3, 3, 3)), one); !slices.Equal(l, []api.Solid{{3: 1 << 27}, {1}, {1 << 63}}) || e != api.OK {
		t.Errorf("Places of a cell: %x, error %d", l, e)
	}
	if l, e := solid.Places(full(), full()); !slices.Equal(l, []api.Solid{full()}) || e != api.OK {
		t.Errorf("Places of the grid: %x, error %d", l, e)
	}
	for _, a := range []api.Solid{{}, ell(), full()} {
		if l, e := solid.Places(a, api.Solid{}); len(l) != 0 || e != api.ErrArg {
			t.Errorf("Places(%x, none): %x, error %d", a, l, e)
		}
	}
	if l, e := solid.Places(api.Solid{}, one); len(l) != 0 || e != api.OK {
		t.Errorf("Places(none, a cell): %x, error %d", l, e)
	}
}

// P2.7: CheckFit accepts a motion exactly if what it places is one of Places.
func TestP27Places(t *testing.T) {
	accepted := 0
	for _, a := range bigOnes() {
		for _, b := range fewCells() {
			l, e := solid.Places(a, b)
			_, ok := solid.Fits(a, b)
			if e != api.OK || ok != (len(l) > 0) {
				t.Fatalf("Places(%x, %x): %x, error %d, Fits: %v", a, b, l, e, ok)
			}
			for _, m := range motions(96) {
				place, e := solid.Placed(b, m)
				in := e == api.OK && slices.Contains(l, place)
				if solid.CheckFit(a, b, m) != in {
					t.Fatalf("CheckFit(%x, %x, %v): %v", a, b, m, !in)
				}
				if in {
					accepted++
				}
			}
		}
	}
	if accepted < 300 {
		t.Errorf("only %d motions are accepted", accepted)
	}
}

// P2.2: each solid fits into itself, and what fits into a solid that fits into a third one fits into that one; what fits has no more cells.
func TestP22Cutting(t *testing.T) {
	l := slices.Concat(shapes(), drawn(20), small(30))
	fits := make([][]bool, len(l))
	for i, a := range l {
		for _, b := range l {
			_, ok := solid.Fits(a, b)
			fits[i] = append(fits[i], ok)
			if ok && solid.Count(b) > solid.Count(a) {
				t.Errorf("Fits(%x, %x): true, but it has more cells", a, b)
			}
		}
		if !fits[i][i] {
			t.Errorf("%x does not fit into itself", a)
		}
	}
	led := 0
	for i := range l {
		for j := range l {
			for k := range l {
				if i != j && j != k && fits[i][j] && fits[j][k] {
					led++
					if !fits[i][k] {
						t.Fatalf("%x fits into %x, and that into %x, but it does not", l[k], l[j], l[i])
					}
				}
			}
		}
	}
	if led < 1000 {
		t.Errorf("only %d solids fit by way of others", led)
	}
}

// P2.2: a solid with fewer cells fits wherever it did, and into one with more cells all fits that did.
func TestP22FewerAndMore(t *testing.T) {
	tried := 0
	l := small(40)
	for i, a := range bigOnes() {
		for j, b := range fewCells() {
			m, ok := solid.Fits(a, b)
			if !ok {
				continue
			}
			tried++
			cells := solid.Cells(b)
			fewer := without(b, cells[(i+j)%len(cells)])
			more := with(a, solid.Cells(l[(i+j)%len(l)])...)
			for _, x := range [][2]api.Solid{{a, fewer}, {more, b}, {more, fewer}} {
				if _, ok := solid.Fits(x[0], x[1]); !ok || !solid.CheckFit(x[0], x[1], m) {
					t.Fatalf("Fits(%x, %x): %v, though %x fits into %x", x[0], x[1], ok, b, a)
				}
			}
		}
	}
	if tried < 100 {
		t.Errorf("only %d pairs fit", tried)
	}
}
