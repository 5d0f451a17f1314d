package solid_test

import (
	"math"
	"slices"
	"testing"

	"strickle/api"
	"strickle/solid"
)

func TestB1Has(t *testing.T) {
	for _, x := range many() {
		s := setIn(x)
		for z := -2; z <= 9; z++ {
			for y := -2; y <= 9; y++ {
				for x1 := -2; x1 <= 9; x1++ {
					if c := at(x1, y, z); solid.Has(x, c) != s[c] {
						t.Fatalf("Has(%x, %v): %v", x, c, !s[c])
					}
				}
			}
		}
	}
	for _, n := range append(wrongNumbers(), -1, 8) {
		for _, c := range []api.Cell{at(n, 0, 0), at(0, n, 0), at(0, 0, n), at(n, n, n), at(n, 7, 7), at(7, n, 7)} {
			if solid.Has(full(), c) {
				t.Errorf("Has(%v): true", c)
			}
		}
	}
}

func TestB1Cells(t *testing.T) {
	for _, x := range many() {
		want := setIn(x).cells()
		if l := solid.Cells(x); !slices.Equal(l, want) {
			t.Errorf("Cells(%x): %v, want %v", x, l, want)
		}
		if n := solid.Count(x); n != len(want) {
			t.Errorf("Count(%x): %d, want %d", x, n, len(want))
		}
		slices.Reverse(want)
		if y, e := solid.Of(append(want, want...)[:min(2*len(want), 1000)]); y != x || e != api.OK {
			t.Errorf("Of(%v): %x, error %d", want, y, e)
		}
	}
}

func TestB1Of(t *testing.T) {
	if x, e := solid.Of(nil); x != (api.Solid{}) || e != api.OK {
		t.Errorf("Of(nil): %x, error %d", x, e)
	}
	if x, e := solid.Of([]api.Cell{}); x != (api.Solid{}) || e != api.OK {
		t.Errorf("Of(none): %x, error %d", x, e)
	}
	same := slices.Repeat([]api.Cell{at(1, 2, 3)}, 1001)
	if x, e := solid.Of(same[:1000]); x != (api.Solid{3: 1 << 17}) || e != api.OK {
		t.Errorf("Of(1000 cells): %x, error %d", x, e)
	}
	if x, e := solid.Of(same); x != (api.Solid{}) || e != api.ErrLimit {
		t.Errorf("Of(1001 cells): %x, error %d", x, e)
	}
	same[0] = at(8, 0, 0)
	if x, e := solid.Of(same); x != (api.Solid{}) || e != api.ErrLimit {
		t.Errorf("Of(1001 cells, the first one wrong): %x, error %d", x, e)
	}
	if x, e := solid.Of(same[:1000]); x != (api.Solid{}) || e != api.ErrArg {
		t.Errorf("Of(1000 cells, the first one wrong): %x, error %d", x, e)
	}
	for _, n := range append(wrongNumbers(), -1, 8) {
		for _, c := range []api.Cell{at(n, 0, 0), at(0, n, 0), at(0, 0, n), at(n, n, n), at(n, 7, 7)} {
			if x, e := solid.Of([]api.Cell{at(0, 0, 0), c, at(1, 1, 1)}); x != (api.Solid{}) || e != api.ErrArg {
				t.Errorf("Of(.., %v): %x, error %d", c, x, e)
			}
		}
	}
}

func TestB2Sets(t *testing.T) {
	l := many()
	for i, a := range l {
		for _, b := range append(slices.Clone(l[max(0, i-8):i+1]), a, api.Solid{}, full()) {
			s, u := setIn(a), setIn(b)
			var join, meet, less []api.Cell
			for _, c := range grid() {
				if s[c] || u[c] {
					join = append(join, c)
				}
				if s[c] && u[c] {
					meet = append(meet, c)
				}
				if s[c] && !u[c] {
					less = append(less, c)
				}
			}
			if x := solid.Join(a, b); x != made(join...) {
				t.Fatalf("Join(%x, %x): %x", a, b, x)
			}
			if x := solid.Meet(a, b); x != made(meet...) {
				t.Fatalf("Meet(%x, %x): %x", a, b, x)
			}
			if x := solid.Less(a, b); x != made(less...) {
				t.Fatalf("Less(%x, %x): %x", a, b, x)
			}
			if in := solid.In(a, b); in != s.in(u) {
				t.Fatalf("In(%x, %x): %v", a, b, in)
			}
			if in := solid.In(made(meet...), a); !in {
				t.Fatalf("In(%x, %x): false", meet, a)
			}
		}
	}
}

func TestB3Bounds(t *testing.T) {
	if b, ok := solid.Bounds(api.Solid{}); b != (api.Box{}) || ok {
		t.Errorf("Bounds of none: %v, %v", b, ok)
	}
	for _, x := range many() {
		cells := setIn(x).cells()
		if len(cells) == 0 {
			continue
		}
		want := box(7, 7, 7, 0, 0, 0)
		for _, c := range cells {
			want.Low = at(min(want.Low.X, c.X), min(want.Low.Y, c.Y), min(want.Low.Z, c.Z))
			want.High = at(max(want.High.X, c.X), max(want.High.Y, c.Y), max(want.High.Z, c.Z))
		}
		if b, ok := solid.Bounds(x); b != want || !ok {
			t.Errorf("Bounds(%x): %v, %v, want %v", x, b, ok, want)
		}
	}
}

func TestB3Block(t *testing.T) {
	for _, b := range []api.Box{
		box(0, 0, 0, 0, 0, 0), box(7, 7, 7, 7, 7, 7), box(0, 0, 0, 7, 7, 7), box(1, 2, 3, 4, 5, 6), box(6, 0, 3, 6, 7, 3), box(0, 5, 1, 7, 5, 1), box(2, 3, 0, 2, 3, 7),
	} {
		x, e := solid.Block(b)
		if x != blockOf(b) || e != api.OK {
			t.Errorf("Block(%v): %x, error %d", b, x, e)
		}
		if c, ok := solid.Bounds(x); c != b || !ok {
			t.Errorf("Bounds(%x): %v, %v, want %v", x, c, ok, b)
		}
	}
	wrong := []api.Box{box(1, 0, 0, 0, 7, 7), box(0, 1, 0, 7, 0, 7), box(0, 0, 1, 7, 7, 0), box(7, 7, 7, 0, 0, 0), box(math.MaxInt, 0, 0, math.MinInt, 7, 7)}
	for _, n := range append(wrongNumbers(), -1, 8) {
		wrong = append(wrong, box(n, 0, 0, 7, 7, 7), box(0, n, 0, 7, 7, 7), box(0, 0, n, 7, 7, 7), box(0, 0, 0, n, 7, 7), box(0, 0, 0, 7, n, 7), box(0, 0, 0, 7, 7, n), box(n, n, n, n, n, n))
	}
	for _, b := range wrong {
		if x, e := solid.Block(b); x != (api.Solid{}) || e != api.ErrArg {
			t.Errorf("Block(%v): %x, error %d", b, x, e)
		}
	}
}
