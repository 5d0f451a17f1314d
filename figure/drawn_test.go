package figure_test

import (
	"fmt"
	"math/rand/v2"
	"slices"
	"strings"
	"testing"

	"strickle/api"
	"strickle/figure"
	"strickle/solid"
)

// dotted returns a solid of so many single cells, no two of which have a face in common, or are beside each other in their row.
func dotted(n int) api.Solid {
	var s api.Solid
	for i := range n {
		s[i/16%4*2] |= 1 << (2*(i%4) + 16*(i/4%4))
	}
	return s
}

// boxOf returns a box.
func boxOf(x, y, z, x2, y2, z2 int) api.Box {
	return api.Box{Low: api.Cell{X: x, Y: y, Z: z}, High: api.Cell{X: x2, Y: y2, Z: z2}}
}

func TestF11Blocks(t *testing.T) {
	for text, want := range map[string][]api.Box{
		"0":     nil,
		"1":     {boxOf(0, 0, 0, 0, 0, 0)},
		"107":   {boxOf(0, 0, 0, 2, 0, 0), boxOf(0, 1, 0, 0, 1, 0)},
		"70507": {boxOf(0, 0, 0, 2, 0, 0), boxOf(0, 1, 0, 0, 2, 0), boxOf(2, 1, 0, 2, 2, 0), boxOf(1, 2, 0, 1, 2, 0)},
		"ffffffffffffffff.ffffffffffffffff.ffffffffffffffff.ffffffffffffffff.ffffffffffffffff.ffffffffffffffff.ffffffffffffffff.ffffffffffffffff": {boxOf(0, 0, 0, 7, 7, 7)},
		"0.0.0.0.0.0.0.8000000000000000": {boxOf(7, 7, 7, 7, 7, 7)},
		"180":                            {boxOf(7, 0, 0, 7, 0, 0), boxOf(0, 1, 0, 0, 1, 0)},
		"101":                            {boxOf(0, 0, 0, 0, 1, 0)},
		"1.1":                            {boxOf(0, 0, 0, 0, 0, 1)},
		// Along X first, then Y, then Z.
		"103.103": {boxOf(0, 0, 0, 1, 0, 1), boxOf(0, 1, 0, 0, 1, 1)},
		"301.301": {boxOf(0, 0, 0, 0, 1, 1), boxOf(1, 1, 0, 1, 1, 1)},
		"303.303": {boxOf(0, 0, 0, 1, 1, 1)},
		"303.103": {boxOf(0, 0, 0, 1, 1, 0), boxOf(0, 0, 1, 1, 0, 1), boxOf(0, 1, 1, 0, 1, 1)},
		"1.3":     {boxOf(0, 0, 0, 0, 0, 1), boxOf(1, 0, 1, 1, 0, 1)},
		// A gap ends a row, a column and a pile.
		"5":     {boxOf(0, 0, 0, 0, 0, 0), boxOf(2, 0, 0, 2, 0, 0)},
		"10001": {boxOf(0, 0, 0, 0, 0, 0), boxOf(0, 2, 0, 0, 2, 0)},
		"1.0.1": {boxOf(0, 0, 0, 0, 0, 0), boxOf(0, 0, 2, 0, 0, 2)},
		// Cells that are in a box already are left no more.
		"706.300": {boxOf(1, 0, 0, 2, 1, 0), boxOf(0, 1, 0, 0, 1, 1), boxOf(1, 1, 1, 1, 1, 1)},
	} {
		if l := figure.Blocks(read(t, text)); !slices.Equal(l, want) {
			t.Errorf("Blocks(%s): %v, want %v", text, l, want)
		}
	}
}

// boxes divides a solid cell by cell.
func boxes(s api.Solid) []api.Box {
	left := map[api.Cell]bool{}
	for _, c := range solid.Cells(s) {
		left[c] = true
	}
	var l []api.Box
	for _, c := range solid.Cells(s) {
		if !left[c] {
			continue
		}
		x, y, z := c.X, c.Y, c.Z
		for left[api.Cell{X: x + 1, Y: y, Z: z}] {
			x++
		}
		row := func(y, z int) bool {
			for i := c.X; i <= x; i++ {
				if !left[api.Cell{X: i, Y: y, Z: z}] {
					return false
				}
			}
			return true
		}
		for row(y+1, z) {
			y++
		}
		plane := func(z int) bool {
			for j := c.Y; j <= y; j++ {
				if !row(j, z) {
					return false
				}
			}
			return true
		}
		for plane(z + 1) {
			z++
		}
		b := api.Box{Low: c, High: api.Cell{X: x, Y: y, Z: z}}
		l = append(l, b)
		for d := range left {
			if d.X >= c.X && d.X <= x && d.Y >= c.Y && d.Y <= y && d.Z >= c.Z && d.Z <= z {
				left[d] = false
			}
		}
	}
	return l
}

// F11, cell by cell; P6.7: Blocks has each cell in just one box, and no other cell.
func TestP67Blocks(t *testing.T) {
	for _, s := range solids(rand.New(rand.NewPCG(6, 16)), 2000) {
		l := figure.Blocks(s)
		if want := boxes(s); !slices.Equal(l, want) {
			t.Fatalf("Blocks(%v): %v, want %v", s, l, want)
		}
		var all api.Solid
		for _, b := range l {
			cells, e := solid.Block(b)
			if e != api.OK || solid.Meet(cells, all) != (api.Solid{}) {
				t.Fatalf("Blocks(%v): the box %v is none, or has cells of one before, error %d", s, b, e)
			}
			all = solid.Join(all, cells)
		}
		if all != s {
			t.Fatalf("Blocks(%v): the cells %v", s, all)
		}
	}
}

func TestF12Drawn(t *testing.T) {
	for text, want := range map[string]string{
		"1":                       "p0 = block 0 0 0 1 1 1\n",
		"107":                     "p0 = block 0 0 0 3 1 1\np1 = block 0 1 0 1 1 1\np2 = join p0 p1\n",
		"70507":                   "p0 = block 0 0 0 3 1 1\np1 = block 0 1 0 1 2 1\np2 = block 2 1 0 1 2 1\np3 = block 1 2 0 1 1 1\np4 = join p0 p1\np5 = join p4 p2\np6 = join p5 p3\n",
		"0.0.0.0.0.0.7.7":         "p0 = block 0 0 6 3 1 2\n",
		"183c3c180000.1818000000": "p0 = spun 0 ba\n",
		"0.0.0.1818000000":        "p0 = spun 3 a\n",
		"1818000000.1818000000.1818000000.1818000000.1818000000.1818000000.1818000000.1818000000": "p0 = spun 0 8(a)\n",
		"0.0.1818000000.0.0.1818000000":                                                 "p0 = spun 2 <ao>\n",
		"0.183c3c180000.1818000000.183c3c180000.1818000000":                             "p0 = spun 1 baba\n",
		"1818000000.1818000000.183c3c180000":                                            "p0 = spun 0 aab\n",
		"1818000000.183c3c180000.3c7e7e7e7e3c00.3c7e7e7e7e3c00.183c3c180000.1818000000": "p0 = spun 0 <abc>\n",
	} {
		l, e := figure.Drawn(read(t, text))
		if s := figure.Print(l); s != want || e != api.OK {
			t.Errorf("Drawn(%s): %q, error %d, want %q", text, s, e, want)
		}
	}
	if l, e := figure.Drawn(api.Solid{}); len(l) != 0 || e != api.ErrNone {
		t.Errorf("Drawn of nothing: %v, error %d", l, e)
	}
}

func TestF12DrawnLimit(t *testing.T) {
	for n, want := range map[int]api.Errno{1: api.OK, 2: api.OK, 19: api.OK, 20: api.OK, 21: api.ErrLimit, 22: api.ErrLimit, 64: api.ErrLimit} {
		l, e := figure.Drawn(dotted(n))
		if e != want || len(l) != 0 && want != api.OK || want == api.OK && len(l) != 2*n-1 {
			t.Errorf("Drawn of %d cells: %d terms, error %d, want error %d", n, len(l), e, want)
		}
		for i, x := range l {
			if x.Name != fmt.Sprint("p", i) || (x.Kind == api.TermBlock) != (i < n) {
				t.Errorf("Drawn of %d cells: %v at %d", n, x, i)
			}
			if i > n && (x.A != i-1 || x.B != i-n+1) || i == n && (x.A != 0 || x.B != 1) {
				t.Errorf("Drawn of %d cells: %v at %d", n, x, i)
			}
		}
	}
	// A profile is drawn also if the solid is of more blocks.
	s, e := figure.Spun("abcdabcd", 0)
	if n := len(figure.Blocks(s)); n <= 20 || e != api.OK {
		t.Errorf("Blocks of a spun solid: only %d, error %d", n, e)
	}
	if l, e := figure.Drawn(s); figure.Print(l) != "p0 = spun 0 2(abcd)\n" || e != api.OK {
		t.Errorf("Drawn of a spun solid: %v, error %d", l, e)
	}
}

// P6.7 (T6): Compile of Drawn is the solid.
func TestP67Drawn(t *testing.T) {
	r := rand.New(rand.NewPCG(6, 17))
	l := solids(r, 4000)
	spinnable(3, func(word string) {
		s, _ := figure.Spun(word, r.IntN(6))
		l = append(l, s)
	})
	found := map[api.Errno]int{}
	for _, s := range l {
		word, z, is := figure.Profile(s)
		n := len(figure.Blocks(s))
		want := api.OK
		switch {
		case s == api.Solid{}:
			want = api.ErrNone
		case !is && n > 20:
			want = api.ErrLimit
		}
		d, e := figure.Drawn(s)
		found[e]++
		if e != want || e != api.OK && len(d) != 0 {
			t.Fatalf("Drawn(%v): %v, error %d, want %d", s, d, e, want)
		}
		if e != api.OK {
			continue
		}
		if again, i, e := figure.Compile(d); again != s || i != 0 || e != api.OK {
			t.Fatalf("Compile(%s): %v, %d, error %d, want %v", figure.Print(d), again, i, e, s)
		}
		if lean, e := figure.Lean(d); !slices.Equal(lean, d) || e != api.OK {
			t.Fatalf("Lean(%s): %v, error %d", figure.Print(d), lean, e)
		}
		if is && (len(d) != 1 || figure.Print(d) != fmt.Sprintf("p0 = spun %d %s\n", z, shortest(t, word))) || !is && len(d) != 2*n-1 {
			t.Fatalf("Drawn(%v): %s", s, figure.Print(d))
		}
		if !is && strings.Contains(figure.Print(d), "spun") {
			t.Fatalf("Drawn(%v): %s", s, figure.Print(d))
		}
	}
	for e, least := range map[api.Errno]int{api.OK: 2000, api.ErrNone: 1, api.ErrLimit: 500} {
		if found[e] < least {
			t.Errorf("only %d solids with error %d", found[e], e)
		}
	}
}
