package solid_test

import (
	"slices"
	"testing"

	"strickle/api"
	"strickle/solid"
)

func TestB4Turned(t *testing.T) {
	for _, x := range many() {
		for turn := range 24 {
			want, _ := setIn(x).mapped(func(c api.Cell) api.Cell { return turnedCell(c, turn, 7) }).solid()
			if y, e := solid.Turned(x, turn); y != want || e != api.OK {
				t.Fatalf("Turned(%x, %d): %x, error %d, want %x", x, turn, y, e, want)
			}
		}
	}
	for _, n := range append(wrongNumbers(), -1, -2, -4) {
		for _, x := range []api.Solid{{}, ell(), full()} {
			if y, e := solid.Turned(x, n); y != (api.Solid{}) || e != api.ErrArg {
				t.Errorf("Turned(%x, %d): %x, error %d", x, n, y, e)
			}
		}
	}
}

func TestB4TurnedTable(t *testing.T) {
	// The cell 1, 2, 4 by the chapter's table of rolls, and turned once about the upright axis behind it.
	for roll, want := range []api.Cell{at(1, 2, 4), at(1, 3, 2), at(1, 5, 3), at(1, 4, 5), at(4, 2, 6), at(3, 2, 1)} {
		if x, e := solid.Turned(made(at(1, 2, 4)), 4*roll); x != made(want) || e != api.OK {
			t.Errorf("Turned(%d): %x, error %d", 4*roll, x, e)
		}
		once := at(7-want.Y, want.X, want.Z)
		if x, e := solid.Turned(made(at(1, 2, 4)), 4*roll+1); x != made(once) || e != api.OK {
			t.Errorf("Turned(%d): %x, error %d", 4*roll+1, x, e)
		}
	}
}

func TestB4Moved(t *testing.T) {
	for _, x := range many() {
		s := setIn(x)
		for _, m := range append(motions(40), api.Motion{X: 8}, api.Motion{Y: -8}, api.Motion{Z: 8}) {
			want, ok := s.mapped(func(c api.Cell) api.Cell { return moved(c, m.X, m.Y, m.Z) }).solid()
			y, e := solid.Moved(x, m.X, m.Y, m.Z)
			if y != want || ok && e != api.OK || !ok && e != api.ErrOut {
				t.Fatalf("Moved(%x, %v): %x, error %d, want %x", x, m, y, e, want)
			}
		}
	}
	for _, n := range wrongNumbers() {
		for _, m := range []api.Cell{at(n, 0, 0), at(0, n, 0), at(0, 0, n), at(n, n, n)} {
			if x, e := solid.Moved(api.Solid{}, m.X, m.Y, m.Z); x != (api.Solid{}) || e != api.OK {
				t.Errorf("Moved(none, %v): %x, error %d", m, x, e)
			}
			for _, x := range []api.Solid{ell(), full(), made(at(7, 7, 7)), made(at(3, 3, 3))} {
				if y, e := solid.Moved(x, m.X, m.Y, m.Z); y != (api.Solid{}) || e != api.ErrOut {
					t.Errorf("Moved(%x, %v): %x, error %d", x, m, y, e)
				}
			}
		}
	}
}

// A cell that leaves the grid does not come back in the next row or plane.
func TestB4MovedEdges(t *testing.T) {
	for _, c := range grid() {
		for _, d := range grid() {
			x, y, z := d.X-c.X, d.Y-c.Y, d.Z-c.Z
			if s, e := solid.Moved(made(c), x, y, z); s != made(d) || e != api.OK {
				t.Fatalf("Moved(%v, %d, %d, %d): %x, error %d", c, x, y, z, s, e)
			}
		}
		for _, m := range []api.Cell{at(8-c.X, 0, 0), at(-1-c.X, 0, 0), at(0, 8-c.Y, 0), at(0, -1-c.Y, 0), at(0, 0, 8-c.Z), at(0, 0, -1-c.Z)} {
			if s, e := solid.Moved(made(c), m.X, m.Y, m.Z); s != (api.Solid{}) || e != api.ErrOut {
				t.Fatalf("Moved(%v, %v): %x, error %d", c, m, s, e)
			}
		}
	}
}

func TestB4Mirrored(t *testing.T) {
	for _, x := range many() {
		for axis := range 3 {
			want, _ := setIn(x).mapped(func(c api.Cell) api.Cell {
				return []api.Cell{at(7-c.X, c.Y, c.Z), at(c.X, 7-c.Y, c.Z), at(c.X, c.Y, 7-c.Z)}[axis]
			}).solid()
			y, e := solid.Mirrored(x, axis)
			if y != want || e != api.OK {
				t.Fatalf("Mirrored(%x, %d): %x, error %d, want %x", x, axis, y, e, want)
			}
			if back, e := solid.Mirrored(y, axis); back != x || e != api.OK {
				t.Fatalf("Mirrored(%x, %d): %x, error %d, want %x", y, axis, back, e, x)
			}
		}
	}
	for _, n := range append(wrongNumbers(), -1, 3, 4) {
		for _, x := range []api.Solid{{}, ell()} {
			if y, e := solid.Mirrored(x, n); y != (api.Solid{}) || e != api.ErrArg {
				t.Errorf("Mirrored(%x, %d): %x, error %d", x, n, y, e)
			}
		}
	}
}

func TestB5Placed(t *testing.T) {
	for _, x := range many() {
		for _, m := range motions(96) {
			want, ok := setIn(x).mapped(func(c api.Cell) api.Cell { return placedCell(c, m) }).solid()
			y, e := solid.Placed(x, m)
			if y != want || ok && e != api.OK || !ok && e != api.ErrOut {
				t.Fatalf("Placed(%x, %v): %x, error %d, want %x", x, m, y, e, want)
			}
		}
	}
	for _, m := range []api.Motion{{X: 7, Y: 7, Z: 7}, {X: -7, Y: -7, Z: -7}, {Turn: 23, X: 7, Z: -7}} {
		if x, e := solid.Placed(api.Solid{}, m); x != (api.Solid{}) || e != api.OK {
			t.Errorf("Placed(none, %v): %x, error %d", m, x, e)
		}
		if x, e := solid.Placed(full(), m); x != (api.Solid{}) || e != api.ErrOut {
			t.Errorf("Placed(%v): %x, error %d", m, x, e)
		}
	}
	for _, m := range wrongMotions() {
		for _, x := range []api.Solid{{}, ell(), full()} {
			if y, e := solid.Placed(x, m); y != (api.Solid{}) || e != api.ErrArg {
				t.Errorf("Placed(%x, %v): %x, error %d", x, m, y, e)
			}
		}
	}
}

// placesOf returns where motions, one behind the other, take some cells that tell all motions apart, by the chapter's table.
func placesOf(m ...api.Motion) []api.Cell {
	var l []api.Cell
	for _, c := range []api.Cell{at(0, 0, 0), at(1, 0, 0), at(0, 1, 0), at(0, 0, 1)} {
		for _, x := range m {
			c = placedCell(c, x)
		}
		l = append(l, c)
	}
	return l
}

func TestB6Then(t *testing.T) {
	l := append(motions(120), api.Motion{X: 7}, api.Motion{X: -7}, api.Motion{X: 7, Y: 7, Z: 7}, api.Motion{Turn: 9, X: -7, Y: 7, Z: 1})
	for turn := range 24 {
		l = append(l, api.Motion{Turn: turn}, api.Motion{Turn: turn, X: 1, Y: 2, Z: -3})
	}
	none, out := 0, 0
	for _, m := range l {
		for _, n := range l {
			// What does both takes the cell 0, 0, 0 where both take it: that decides its move.
			both := placesOf(m, n)
			turn, move := -1, api.Cell{}
			for u := range 24 {
				first := placesOf(api.Motion{Turn: u})
				move = moved(both[0], -first[0].X, -first[0].Y, -first[0].Z)
				if slices.Equal(both, placesOf(api.Motion{Turn: u, X: move.X, Y: move.Y, Z: move.Z})) {
					turn = u
					break
				}
			}
			if turn < 0 {
				none++
				continue
			}
			want, e := api.Motion{Turn: turn, X: move.X, Y: move.Y, Z: move.Z}, api.OK
			if max(move.X, move.Y, move.Z) > 7 || min(move.X, move.Y, move.Z) < -7 {
				want, e = api.Motion{}, api.ErrOut
				out++
			}
			if x, f := solid.Then(m, n); x != want || f != e {
				t.Fatalf("Then(%v, %v): %v, error %d, want %v, error %d", m, n, x, f, want, e)
			}
		}
	}
	if none > 0 || out < 100 {
		t.Errorf("%d pairs make no motion, %d leave the grid", none, out)
	}
}

func TestB6Back(t *testing.T) {
	for _, m := range append(motions(480), api.Motion{Turn: 5, X: 7, Y: -7, Z: 7}, api.Motion{Turn: 17, X: -7, Y: -7, Z: -7}) {
		back, e := solid.Back(m)
		if e != api.OK {
			t.Fatalf("Back(%v): error %d", m, e)
		}
		if !slices.Equal(placesOf(m, back), placesOf(api.Motion{})) || !slices.Equal(placesOf(back, m), placesOf(api.Motion{})) {
			t.Fatalf("Back(%v): %v", m, back)
		}
		if again, e := solid.Back(back); again != m || e != api.OK {
			t.Fatalf("Back(%v): %v, error %d, want %v", back, again, e, m)
		}
	}
}

func TestB6Wrong(t *testing.T) {
	good := api.Motion{Turn: 3, X: 7, Y: -7, Z: 7}
	for _, m := range wrongMotions() {
		if x, e := solid.Then(m, good); x != (api.Motion{}) || e != api.ErrArg {
			t.Errorf("Then(%v, good): %v, error %d", m, x, e)
		}
		if x, e := solid.Then(good, m); x != (api.Motion{}) || e != api.ErrArg {
			t.Errorf("Then(good, %v): %v, error %d", m, x, e)
		}
		if x, e := solid.Then(m, m); x != (api.Motion{}) || e != api.ErrArg {
			t.Errorf("Then(%v, it): %v, error %d", m, x, e)
		}
		if x, e := solid.Back(m); x != (api.Motion{}) || e != api.ErrArg {
			t.Errorf("Back(%v): %v, error %d", m, x, e)
		}
	}
}

// P2.6: Placed by Then is placed by m and then by n, where both can be done; Then with Back leaves a solid where it was.
func TestP26Motions(t *testing.T) {
	l := motions(72)
	both := 0
	for _, x := range slices.Concat(small(12), []api.Solid{{}, ring(), ell(), hand(), hollow()}) {
		for _, m := range l {
			y, e := solid.Placed(x, m)
			if e != api.OK {
				continue
			}
			for _, n := range l {
				z, e := solid.Placed(y, n)
				once, f := solid.Then(m, n)
				if e != api.OK || f != api.OK {
					continue
				}
				both++
				if u, e := solid.Placed(x, once); u != z || e != api.OK {
					t.Fatalf("Placed(%x, Then(%v, %v)): %x, error %d, want %x", x, m, n, u, e, z)
				}
			}
			back, e := solid.Back(m)
			if u, f := solid.Placed(y, back); u != x || e != api.OK || f != api.OK {
				t.Fatalf("Placed(%x, Back(%v)): %x, errors %d, %d", y, m, u, e, f)
			}
			if none, f := solid.Then(m, back); none != (api.Motion{}) || f != api.OK {
				t.Fatalf("Then(%v, Back): %v, error %d", m, none, f)
			}
		}
	}
	if both < 1000 {
		t.Errorf("only %d pairs of motions could be done", both)
	}
}

// P2.6: Turned is Placed with the turn and no move; to turn four times with the turn 1 is to do nothing.
func TestP26Turns(t *testing.T) {
	for _, x := range many() {
		for turn := range 24 {
			y, e := solid.Turned(x, turn)
			if z, f := solid.Placed(x, api.Motion{Turn: turn}); y != z || e != api.OK || f != api.OK {
				t.Fatalf("Turned(%x, %d): %x, but Placed: %x, errors %d, %d", x, turn, y, z, e, f)
			}
		}
		y := x
		for range 4 {
			y, _ = solid.Turned(y, 1)
		}
		if y != x {
			t.Fatalf("%x turned four times: %x", x, y)
		}
	}
	if m, e := solid.Then(api.Motion{Turn: 1}, api.Motion{Turn: 3}); m != (api.Motion{}) || e != api.OK {
		t.Errorf("Then: %v, error %d", m, e)
	}
}

// The 24 turns are different rotations: together they are closed, and each one has one that takes it back.
func TestB6Group(t *testing.T) {
	for m := range 24 {
		seen := map[int]bool{}
		for n := range 24 {
			both, e := solid.Then(api.Motion{Turn: m}, api.Motion{Turn: n})
			if e != api.OK || both != (api.Motion{Turn: both.Turn}) {
				t.Fatalf("Then(%d, %d): %v, error %d", m, n, both, e)
			}
			seen[both.Turn] = true
		}
		if len(seen) != 24 {
			t.Errorf("the turn %d makes %d turns with the others", m, len(seen))
		}
	}
}
