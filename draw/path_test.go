package draw_test

import (
	"slices"
	"testing"

	"strickle/api"
	"strickle/draw"
)

func TestC7Needs(t *testing.T) {
	some, never := 0, 0
	for _, m := range many() {
		sequences := modelOf(m).sequences()
		for p := range m {
			needs, found := 1<<len(m)-1, false
			for _, l := range sequences {
				if i := slices.Index(l, p); i >= 0 {
					needs &= bitsOf(l[:i])
					found = true
				}
			}
			want, f := listOf(needs), api.OK
			if !found {
				want, f = nil, api.ErrStuck
				never++
			}
			if l, e := draw.Needs(m, p); !slices.Equal(l, want) || e != f {
				t.Fatalf("Needs(%x, %d): %v, error %d, want %v, error %d", m, p, l, e, want, f)
			}
			if len(want) > 0 {
				some++
			}
		}
	}
	if min(some, never) < 30 {
		t.Errorf("%d pieces need others, %d never go", some, never)
	}
	if l, e := draw.Needs(tower(), 5); !slices.Equal(l, []int{0, 1, 2, 3, 4}) || e != api.OK {
		t.Errorf("Needs in a tower: %v, error %d", l, e)
	}
}

func TestC7Paths(t *testing.T) {
	several, unequal := 0, 0
	for _, m := range many() {
		o := modelOf(m)
		for p := range m {
			want := o.paths(p)
			if l, e := draw.Paths(m, p); !same(l, want) || e != api.OK {
				t.Fatalf("Paths(%x, %d): %v, error %d, want %v", m, p, l, e, want)
			}
			if len(want) > 1 {
				several++
				if len(want[0]) < len(want[len(want)-1]) {
					unequal++
				}
			}
		}
	}
	if several < 20 || unequal < 5 {
		t.Errorf("%d pieces have several paths, %d some of different lengths", several, unequal)
	}
	// The piece 0 goes to the east behind 1, to the west behind 2 and 3, which is below 2, to the south behind 4, and to the north behind 5 and 6.
	if l, e := draw.Paths(gaps(), 0); !same(l, [][]int{{0, 1}, {0, 4}, {0, 2, 3}, {0, 5, 6}}) || e != api.OK {
		t.Errorf("Paths of gaps: %v, error %d", l, e)
	}
	for p := range 12 {
		if l, e := draw.Paths(freeOnes(), p); !same(l, [][]int{{p}}) || e != api.OK {
			t.Errorf("Paths of free ones to %d: %v, error %d", p, l, e)
		}
	}
}

func TestC8Quick(t *testing.T) {
	long, never := 0, 0
	for _, m := range append(many(), tower(), gaps()) {
		sequences := modelOf(m).sequences()
		for p := range m {
			least := 0
			for _, l := range sequences { // by how many pieces they have
				if i := slices.Index(l, p); i >= 0 {
					least = i + 1
					break
				}
			}
			l, ok, e := draw.Quick(m, p)
			if len(l) != least || ok != (least > 0) || e != api.OK {
				t.Fatalf("Quick(%x, %d): %v, %v, error %d, want %d moves", m, p, l, ok, e, least)
			}
			if ok && (!isOrder(m, l) || l[len(l)-1].Piece != p) {
				t.Fatalf("Quick(%x, %d): %v", m, p, l)
			}
			if least > 2 {
				long++
			}
			if !ok {
				never++
			}
		}
	}
	if min(long, never) < 10 {
		t.Errorf("%d pieces need three moves, %d never go", long, never)
	}
}

func TestC7AndC8Wrong(t *testing.T) {
	for _, m := range [][]api.Solid{nil, mouldA(), mouldR(), freeOnes()} {
		for _, p := range append(wrongNumbers(), len(m)) {
			if l, e := draw.Needs(m, p); len(l) != 0 || e != api.ErrArg {
				t.Errorf("Needs of %d: %v, error %d", p, l, e)
			}
			if l, e := draw.Paths(m, p); len(l) != 0 || e != api.ErrArg {
				t.Errorf("Paths of %d: %v, error %d", p, l, e)
			}
			if l, ok, e := draw.Quick(m, p); len(l) != 0 || ok || e != api.ErrArg {
				t.Errorf("Quick of %d: %v, %v, error %d", p, l, ok, e)
			}
		}
	}
}

// P3.4: a set comes first exactly if it is the union of the paths to its pieces that it contains.
func TestP34Paths(t *testing.T) {
	for _, m := range many() {
		var paths []int
		for p := range m {
			l, e := draw.Paths(m, p)
			if e != api.OK {
				t.Fatalf("Paths(%x, %d): error %d", m, p, e)
			}
			for _, path := range l {
				paths = append(paths, bitsOf(path))
			}
		}
		for s := range 1 << len(m) {
			union := 0
			for _, path := range paths {
				if path&^s == 0 {
					union |= path
				}
			}
			if ok, e := draw.First(m, listOf(s)); ok != (union == s) || e != api.OK {
				t.Fatalf("First(%x, %v): %v, error %d, but the union of paths is %v", m, listOf(s), ok, e, listOf(union))
			}
		}
	}
}

// P3.5: Needs has just those pieces, but the piece itself, that are in all of Paths; Quick has as many moves as the first path has pieces.
func TestP35BeforeAPiece(t *testing.T) {
	for _, m := range many() {
		for p := range m {
			paths, e := draw.Paths(m, p)
			needs, f := draw.Needs(m, p)
			quick, ok, g := draw.Quick(m, p)
			if len(paths) == 0 {
				if len(needs) > 0 || len(quick) > 0 || ok || e != api.OK || f != api.ErrStuck || g != api.OK {
					t.Fatalf("%x, %d: no paths, Needs %v, error %d, Quick %v", m, p, needs, f, quick)
				}
				continue
			}
			in := 1<<len(m) - 1
			for _, path := range paths {
				in &= bitsOf(path)
			}
			if !slices.Equal(needs, listOf(in&^(1<<p))) || len(quick) != len(paths[0]) || !ok || e != api.OK || f != api.OK || g != api.OK {
				t.Fatalf("%x, %d: paths %v, Needs %v, Quick %v", m, p, paths, needs, quick)
			}
		}
	}
}
