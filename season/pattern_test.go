package season_test

import (
	"math/rand/v2"
	"slices"
	"testing"

	"strickle/api"
	"strickle/season"
	"strickle/solid"
)

func TestG2Follows(t *testing.T) {
	at := func(id, from, to, size int, wood api.Solid) api.Order {
		return api.Order{Id: id, From: from, To: to, Size: size, Wood: wood}
	}
	first := at(1, 3, 5, 100, woodL())
	for _, x := range []struct {
		next api.Order
		want bool
	}{
		{at(2, 6, 6, 100, woodM()), true}, {at(2, 5, 6, 100, woodM()), false}, {at(2, 4, 4, 100, woodM()), false}, {at(2, 0, 2, 100, woodM()), false}, {at(2, 100000, 100000, 100, woodM()), true},
		{at(2, 6, 6, 101, woodM()), false}, {at(2, 6, 6, 99, woodM()), false}, {at(2, 6, 6, 100, woodL()), true}, {at(2, 6, 6, 100, block(2, 3, 1)), true}, {at(2, 6, 6, 100, block(1, 2, 3)), true},
		{at(2, 6, 6, 100, block(3, 3, 1)), false}, {at(2, 6, 6, 100, block(4, 1, 1)), false}, {at(2, 6, 6, 100, api.Solid{7: 1 << 63}), true}, {at(2, 6, 6, 100, api.Solid{7: 3 << 40}), true}, {at(2, 6, 6, 100, api.Solid{1 | 1<<9}), true}, {at(2, 6, 6, 100, api.Solid{1 | 1<<18}), false},
	} {
		s := api.Season{Orders: []api.Order{first, x.next}}
		ok, e := season.Follows(s, 1, 2)
		back, f := season.Follows(s, 2, 1)
		if ok != x.want || e != api.OK || f != api.OK || back != (x.next.To < 3 && x.next.Size == 100 && x.next.Wood == woodL()) {
			t.Errorf("%v behind %v: %v, error %d, ahead of it: %v, error %d", x.next, first, ok, e, back, f)
		}
		if ok, e := season.Follows(s, 1, 1); ok || e != api.OK {
			t.Errorf("Follows(1, 1): %v, error %d", ok, e)
		}
	}
}

// G2, by the chapter's words.
func TestG2Samples(t *testing.T) {
	found := map[bool]int{}
	for _, s := range small(60, 12, 8) {
		for _, x := range s.Orders {
			for _, y := range s.Orders {
				want := follows(x, y)
				if ok, e := season.Follows(s, x.Id, y.Id); ok != want || e != api.OK {
					t.Fatalf("Follows(%v, %d, %d): %v, error %d", s, x.Id, y.Id, ok, e)
				}
				found[want]++
			}
		}
		for _, x := range s.Spares {
			var reach []int
			for _, y := range s.Orders {
				want := begins(x, y)
				if ok, e := season.Begins(s, x.Id, y.Id); ok != want || e != api.OK {
					t.Fatalf("Begins(%v, %d, %d): %v, error %d", s, x.Id, y.Id, ok, e)
				}
				if want {
					reach = append(reach, y.Id)
				}
				found[want]++
			}
			slices.Sort(reach)
			if l, e := season.Reach(s, x.Id); !slices.Equal(l, reach) || e != api.OK {
				t.Fatalf("Reach(%v, %d): %v, error %d, want %v", s, x.Id, l, e, reach)
			}
		}
	}
	if found[true] < 500 || found[false] < 500 {
		t.Errorf("found: %v", found)
	}
}

// G2, G3: ErrNone for an order or a spare that there is not, also where a spare has the Id of one, or an order of the other.
func TestG2None(t *testing.T) {
	s := chapter()
	for _, id := range append(noIds(), 8, 9) {
		for _, x := range [][2]int{{id, 1}, {1, id}, {id, id}} {
			if ok, e := season.Follows(s, x[0], x[1]); ok || e != api.ErrNone {
				t.Errorf("Follows(%v): %v, error %d", x, ok, e)
			}
			if m, ok, e := season.Place(s, x[0], x[1]); m != (api.Motion{}) || ok || e != api.ErrNone {
				t.Errorf("Place(%v): %v, %v, error %d", x, m, ok, e)
			}
		}
		if ok, e := season.Begins(s, 9, id); ok || e != api.ErrNone {
			t.Errorf("Begins(9, %d): %v, error %d", id, ok, e)
		}
	}
	for _, id := range append(noIds(), 1, 5) {
		if ok, e := season.Begins(s, id, 1); ok || e != api.ErrNone {
			t.Errorf("Begins(%d, 1): %v, error %d", id, ok, e)
		}
		if l, e := season.Reach(s, id); len(l) > 0 || e != api.ErrNone {
			t.Errorf("Reach(%d): %v, error %d", id, l, e)
		}
	}
}

// G3: the motion is that of solid.Fits, exactly if the order can follow.
func TestG3Place(t *testing.T) {
	moved := 0
	for _, s := range small(60, 12, 0) {
		for _, x := range s.Orders {
			for _, y := range s.Orders {
				want, can := api.Motion{}, follows(x, y)
				if can {
					want, _ = solid.Fits(x.Wood, y.Wood)
				}
				if m, ok, e := season.Place(s, x.Id, y.Id); m != want || ok != can || e != api.OK {
					t.Fatalf("Place(%v, %d, %d): %v, %v, error %d, want %v", s, x.Id, y.Id, m, ok, e, want)
				}
				if want != (api.Motion{}) {
					moved++
				}
			}
		}
	}
	if moved < 200 {
		t.Errorf("only %d motions", moved)
	}
}

// P7.4: what can follow what follows can follow; what a spare can begin it can begin through.
func TestP74(t *testing.T) {
	found := 0
	for _, s := range large(4) {
		r := rand.New(rand.NewPCG(7, 4))
		is := func(ok bool, e api.Errno) bool { return ok && e == api.OK }
		for range 4000 {
			x, y, z := pick(r, s.Orders...), pick(r, s.Orders...), pick(r, s.Orders...)
			if is(season.Follows(s, x.Id, y.Id)) && is(season.Follows(s, y.Id, z.Id)) {
				found++
				if !is(season.Follows(s, x.Id, z.Id)) {
					t.Fatalf("%v: %d, %d, %d", s, x.Id, y.Id, z.Id)
				}
			}
			if len(s.Spares) == 0 {
				continue
			}
			spare := pick(r, s.Spares...)
			if is(season.Begins(s, spare.Id, x.Id)) && is(season.Follows(s, x.Id, y.Id)) {
				found++
				if !is(season.Begins(s, spare.Id, y.Id)) {
					t.Fatalf("%v: spare %d, %d, %d", s, spare.Id, x.Id, y.Id)
				}
			}
		}
	}
	if found < 300 {
		t.Errorf("only %d pairs of steps", found)
	}
}
