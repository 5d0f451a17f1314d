package plank_test

import (
	"math/rand/v2"
	"slices"
	"testing"

	"strickle/api"
	"strickle/plank"
)

// made returns the solid with some cells.
func made(l ...api.Cell) api.Solid {
	var s api.Solid
	for _, c := range l {
		s[c.Z] |= 1 << (8*c.Y + c.X)
	}
	return s
}

// boxes returns what Boxes must be, cell by cell.
func boxes(x api.Solid) [][2]int {
	low, high := api.Cell{X: 8, Y: 8, Z: 8}, api.Cell{X: -1, Y: -1, Z: -1}
	for n := range 512 {
		if x[n/64]>>(n%64)&1 == 1 {
			c := api.Cell{X: n % 8, Y: n / 8 % 8, Z: n / 64}
			low = api.Cell{X: min(low.X, c.X), Y: min(low.Y, c.Y), Z: min(low.Z, c.Z)}
			high = api.Cell{X: max(high.X, c.X), Y: max(high.Y, c.Y), Z: max(high.Z, c.Z)}
		}
	}
	var l [][2]int
	for z := low.Z; z <= high.Z; z++ {
		l = append(l, [2]int{high.X - low.X + 1, high.Y - low.Y + 1})
	}
	return l
}

// solids returns some solids: empty, single cells, the whole grid, few cells and many.
func solids() []api.Solid {
	r := rand.New(rand.NewPCG(5, 10))
	l := []api.Solid{{}, {0, 0, 0, 0, 0, 0, 0, 1 << 63}, {1, 0, 0, 0, 0, 0, 0, 1 << 63}, {1 << 7, 0, 0, 1 << 56}, {0xff}, {0, 0x0101010101010101}}
	var whole api.Solid
	for n := range 512 {
		l = append(l, made(api.Cell{X: n % 8, Y: n / 8 % 8, Z: n / 64}))
		whole[n/64] |= 1 << (n % 64)
	}
	l = append(l, whole)
	for range 500 {
		var x api.Solid
		for range 1 + r.IntN(5) {
			n := r.IntN(512)
			x[n/64] |= 1 << (n % 64)
		}
		l = append(l, x)
	}
	return l
}

func TestE10Boxes(t *testing.T) {
	for _, x := range solids() {
		if l := plank.Boxes(x); !slices.Equal(l, boxes(x)) {
			t.Errorf("Boxes(%x): %v, want %v", x, l, boxes(x))
		}
	}
	if l := plank.Boxes(made(api.Cell{X: 1, Y: 5, Z: 2}, api.Cell{X: 3, Y: 6, Z: 5})); !slices.Equal(l, [][2]int{{3, 2}, {3, 2}, {3, 2}, {3, 2}}) {
		t.Errorf("Boxes with empty planes between: %v", l)
	}
}

// timber returns what Timber must be: all kinds are looked at, the best one first.
func timber(s api.Saw, x api.Solid) ([]int, int, api.Errno) {
	order := make([]int, len(s.Kinds))
	for i := range order {
		order[i] = i
	}
	slices.SortStableFunc(order, func(i, j int) int { return s.Kinds[i].Worth - s.Kinds[j].Worth })
	var kinds []int
	worth := 0
	for _, b := range boxes(x) {
		i := slices.IndexFunc(order, func(i int) bool {
			k := s.Kinds[i]
			return k.W >= b[0] && k.H >= b[1] || k.Turn && k.W >= b[1] && k.H >= b[0]
		})
		if i < 0 {
			return nil, 0, api.ErrWood
		}
		kinds = append(kinds, order[i])
		worth += s.Kinds[order[i]].Worth
	}
	return kinds, worth, api.OK
}

func TestE10Timber(t *testing.T) {
	r := rand.New(rand.NewPCG(5, 11))
	ends := map[api.Errno]int{}
	l := append(samples(60, 6, 10, 5), full(), many(12))
	for _, x := range solids()[1:] {
		s := l[r.IntN(len(l))]
		want, sum, f := timber(s, x)
		kinds, worth, e := plank.Timber(s, x)
		if !slices.Equal(kinds, want) || worth != sum || e != f {
			t.Fatalf("Timber(%v, %x): %v, %d, error %d, want %v, %d, error %d", s, x, kinds, worth, e, want, sum, f)
		}
		ends[e]++
	}
	if ends[api.OK] < 50 || ends[api.ErrWood] < 50 {
		t.Errorf("ends: %v", ends)
	}
}

// E10: which kinds are large enough, and which of them is taken.
func TestE10Kinds(t *testing.T) {
	x := made(api.Cell{}, api.Cell{X: 2, Y: 1})
	for _, c := range []struct {
		kinds []api.Kind
		want  int
	}{
		{[]api.Kind{{Id: 1, W: 3, H: 2, Worth: 5}}, 0},
		{[]api.Kind{{Id: 1, W: 4, H: 2, Worth: 5}, {Id: 2, W: 3, H: 3, Worth: 4}}, 1},
		{[]api.Kind{{Id: 9, W: 4, H: 2, Worth: 5}, {Id: 2, W: 3, H: 3, Worth: 5}}, 0},
		{[]api.Kind{{Id: 9, W: 2, H: 3, Worth: 5}, {Id: 2, W: 2, H: 3, Worth: 6, Turn: true}}, 1},
		{[]api.Kind{{Id: 9, W: 2, H: 16, Worth: 5}, {Id: 2, W: 16, H: 1, Worth: 6, Turn: true}}, -1},
		{[]api.Kind{{Id: 9, W: 2, H: 2, Turn: true}, {Id: 2, W: 16, H: 16, Worth: 1000000}}, 1},
		{nil, -1},
	} {
		kinds, worth, e := plank.Timber(api.Saw{Kinds: c.kinds, Kerf: 1}, x)
		if c.want < 0 {
			if len(kinds) != 0 || worth != 0 || e != api.ErrWood {
				t.Errorf("Timber(%v): %v, %d, error %d", c.kinds, kinds, worth, e)
			}
			continue
		}
		if !slices.Equal(kinds, []int{c.want}) || worth != c.kinds[c.want].Worth || e != api.OK {
			t.Errorf("Timber(%v): %v, %d, error %d, want %d", c.kinds, kinds, worth, e, c.want)
		}
	}
	// An empty solid needs no wood, but is no pattern.
	for _, s := range []api.Saw{{}, sawS()} {
		if kinds, worth, e := plank.Timber(s, api.Solid{}); len(kinds) != 0 || worth != 0 || e != api.ErrArg {
			t.Errorf("Timber of nothing: %v, %d, error %d", kinds, worth, e)
		}
	}
	for want, l := range wrongSaws() {
		for _, s := range l {
			for _, x := range []api.Solid{{}, x} {
				if kinds, worth, e := plank.Timber(s, x); len(kinds) != 0 || worth != 0 || e != want {
					t.Errorf("Timber(%v): %v, %d, error %d, want %d", s, kinds, worth, e, want)
				}
			}
		}
	}
}

// P5.9: with a kind more, the timber of a solid is not dearer.
func TestP59Wood(t *testing.T) {
	r := rand.New(rand.NewPCG(5, 12))
	cheaper, dear := 0, 0
	for _, s := range samples(40, 6, 10, 50) {
		for range 20 {
			x := solids()[1+r.IntN(1000)]
			_, worth, e := plank.Timber(s, x)
			more, f := plank.WithKind(s, api.Kind{Id: 5, W: 1 + r.IntN(10), H: 1 + r.IntN(10), Worth: r.IntN(50), Turn: true})
			if f != api.OK {
				t.Fatalf("WithKind: error %d", f)
			}
			_, less, f := plank.Timber(more, x)
			if e != api.OK {
				continue
			}
			if less > worth || f != api.OK {
				t.Fatalf("Timber(%v, %x): %d, with %v: %d, error %d", s, x, worth, more, less, f)
			}
			if less < worth {
				cheaper++
			} else {
				dear++
			}
		}
	}
	if cheaper < 20 || dear < 20 {
		t.Errorf("%d cheaper, %d not", cheaper, dear)
	}
}
