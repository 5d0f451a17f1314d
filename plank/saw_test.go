package plank_test

import (
	"math"
	"math/rand/v2"
	"slices"
	"testing"

	"strickle/api"
	"strickle/plank"
)

// same reports whether two saws are the same.
func same(s, x api.Saw) bool { return s.Kerf == x.Kerf && slices.Equal(s.Kinds, x.Kinds) }

// isZero reports whether a saw has nothing.
func isZero(s api.Saw) bool { return same(s, api.Saw{}) }

func TestE9Raised(t *testing.T) {
	for _, worth := range []int{0, 1, 7, 1000000} {
		for kind := range 3 {
			want := sawK()
			want.Kinds[kind].Worth = worth
			if s, e := plank.Raised(sawK(), kind, worth); !same(s, want) || e != api.OK {
				t.Errorf("Raised(%d, %d): %v, error %d", kind, worth, s, e)
			}
		}
	}
	for _, x := range [][2]int{{0, -1}, {0, 1000001}, {1, math.MinInt}, {2, math.MaxInt}, {-1, 1}, {3, 1}, {math.MinInt, 1}, {math.MaxInt, 1}, {3, -1}} {
		if s, e := plank.Raised(sawK(), x[0], x[1]); !isZero(s) || e != api.ErrArg {
			t.Errorf("Raised(%v): %v, error %d", x, s, e)
		}
	}
}

func TestE9WithKind(t *testing.T) {
	for _, x := range []api.Kind{{Id: 4, W: 1, H: 16, Worth: 1000000, Turn: true}, {Id: 1000000, W: 3, H: 2, Worth: 7}} {
		want := api.Saw{Kinds: append(sawK().Kinds, x), Kerf: 1}
		if s, e := plank.WithKind(sawK(), x); !same(s, want) || e != api.OK {
			t.Errorf("WithKind(%v): %v, error %d", x, s, e)
		}
		if s, e := plank.WithKind(api.Saw{}, x); !same(s, api.Saw{Kinds: []api.Kind{x}}) || e != api.OK {
			t.Errorf("WithKind(%v): %v, error %d", x, s, e)
		}
	}
	wrong := []api.Kind{{}, {Id: 3, W: 1, H: 1}, {Id: 1, W: 5, H: 5, Worth: 1}, {Id: 0, W: 1, H: 1}, {Id: 1000001, W: 1, H: 1}, {Id: 4, W: 0, H: 1}, {Id: 4, W: 1, H: 0}, {Id: 4, W: 17, H: 1}, {Id: 4, W: 1, H: 17}, {Id: 4, W: 1, H: 1, Worth: -1}, {Id: 4, W: 1, H: 1, Worth: 1000001}}
	for _, x := range wrong {
		if s, e := plank.WithKind(sawK(), x); !isZero(s) || e != api.ErrArg {
			t.Errorf("WithKind(%v): %v, error %d", x, s, e)
		}
	}
	if s, e := plank.WithKind(many(11), api.Kind{Id: 12, W: 1, H: 1, Worth: 11}); !same(s, many(12)) || e != api.OK {
		t.Errorf("WithKind of 11: %v, error %d", s, e)
	}
	// The thirteenth kind is too many, whatever it is.
	for _, x := range append(wrong, api.Kind{Id: 13, W: 1, H: 1}) {
		if s, e := plank.WithKind(many(12), x); !isZero(s) || e != api.ErrLimit {
			t.Errorf("WithKind(%v) of 12: %v, error %d", x, s, e)
		}
	}
}

func TestE9Without(t *testing.T) {
	k := sawK().Kinds
	for kind, want := range [][]api.Kind{{k[1], k[2]}, {k[0], k[2]}, {k[0], k[1]}} {
		if s, e := plank.Without(sawK(), kind); !same(s, api.Saw{Kinds: want, Kerf: 1}) || e != api.OK {
			t.Errorf("Without(%d): %v, error %d", kind, s, e)
		}
	}
	if s, e := plank.Without(many(1), 0); !isZero(s) || e != api.OK {
		t.Errorf("Without the only one: %v, error %d", s, e)
	}
	for _, kind := range []int{-1, 3, math.MinInt, math.MaxInt} {
		if s, e := plank.Without(sawK(), kind); !isZero(s) || e != api.ErrArg {
			t.Errorf("Without(%d): %v, error %d", kind, s, e)
		}
	}
	if s, e := plank.Without(api.Saw{}, 0); !isZero(s) || e != api.ErrArg {
		t.Errorf("Without of none: %v, error %d", s, e)
	}
}

func TestE9Turned(t *testing.T) {
	want := api.Saw{Kinds: []api.Kind{{Id: 1, W: 2, H: 3, Worth: 7, Turn: true}, {Id: 2, W: 2, H: 2, Worth: 4}, {Id: 3, W: 1, H: 1}}, Kerf: 1}
	if s, e := plank.Turned(sawK()); !same(s, want) || e != api.OK {
		t.Errorf("Turned: %v, error %d", s, e)
	}
	for _, s := range samples(50, 12, 16, api.MaxWorth) {
		x, e := plank.Turned(s)
		y, f := plank.Turned(x)
		if !same(s, y) || e != api.OK || f != api.OK {
			t.Errorf("Turned twice: %v, errors %d, %d, want %v", y, e, f, s)
		}
		for i, k := range s.Kinds {
			k.W, k.H = k.H, k.W
			if x.Kinds[i] != k {
				t.Errorf("Turned(%v): %v", s, x)
			}
		}
	}
}

// E9: what is no saw has the error of CheckSaw, whatever else is wrong.
func TestE9NoSaws(t *testing.T) {
	for want, l := range wrongSaws() {
		for _, s := range l {
			for _, kind := range []int{0, -1, 99} {
				if x, e := plank.Raised(s, kind, kind); !isZero(x) || e != want {
					t.Errorf("Raised(%v): %v, error %d, want %d", s, x, e, want)
				}
				if x, e := plank.Without(s, kind); !isZero(x) || e != want {
					t.Errorf("Without(%v): %v, error %d, want %d", s, x, e, want)
				}
				if x, e := plank.WithKind(s, api.Kind{Id: 99, W: 1, H: kind}); !isZero(x) || e != want {
					t.Errorf("WithKind(%v): %v, error %d, want %d", s, x, e, want)
				}
			}
			if x, e := plank.Turned(s); !isZero(x) || e != want {
				t.Errorf("Turned(%v): %v, error %d, want %d", s, x, e, want)
			}
		}
	}
}

// P5.3: Best of other boards.
func TestP53Boards(t *testing.T) {
	r := rand.New(rand.NewPCG(5, 33))
	strict := 0
	for _, s := range append(samples(80, 8, 8, 50), full()) {
		w, h := 1+r.IntN(15), 1+r.IntN(15)
		n := best(s, w, h)
		for _, m := range []int{best(s, w+1, h), best(s, w, h+1)} {
			if m < n {
				t.Fatalf("Best(%v, %d, %d): %d, of a larger board: %d", s, w, h, n, m)
			}
			if m > n {
				strict++
			}
		}
		for _, c := range pairs(s, w, h) {
			m := best(s, c.w1, c.h1)
			if c.w2 > 0 && c.h2 > 0 {
				m += best(s, c.w2, c.h2)
			}
			if m > n {
				t.Fatalf("Best(%v, %d, %d): %d, but %v leaves %d", s, w, h, n, c, m)
			}
		}
		x, e := plank.Turned(s)
		if m := best(x, h, w); m != n || e != api.OK {
			t.Fatalf("Best(%v, %d, %d): %d, turned: %d, error %d", s, w, h, n, m, e)
		}
	}
	if strict < 50 {
		t.Errorf("only %d boards are worth more", strict)
	}
}

// P5.8: Best with a lesser kerf.
func TestP58Kerf(t *testing.T) {
	r := rand.New(rand.NewPCG(5, 88))
	strict := 0
	for _, s := range samples(100, 8, 5, 50) {
		w, h := 1+r.IntN(16), 1+r.IntN(16)
		var l []int
		for kerf := range 3 {
			s.Kerf = 2 - kerf
			l = append(l, prove(t, s, w, h))
		}
		if !slices.IsSorted(l) {
			t.Fatalf("Best(%v, %d, %d) with kerfs of 2, 1, 0: %v", s, w, h, l)
		}
		if l[0] < l[1] && l[1] < l[2] {
			strict++
		}
	}
	if strict < 20 {
		t.Errorf("only %d boards are worth more", strict)
	}
}
