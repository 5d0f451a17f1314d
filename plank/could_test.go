package plank_test

import (
	"math/rand/v2"
	"slices"
	"testing"

	"strickle/api"
	"strickle/plank"
)

// most returns the greatest number of some: none if there are none.
func most(l []int) int {
	n := none
	for _, x := range l {
		n = max(n, x)
	}
	return n
}

// dearer returns the least rise with which some plan with planks of a kind is worth no less than those without: by trying them all.
func dearer(counted []int) int {
	for n := 0; ; n++ {
		for i, x := range counted[1:] {
			if x >= 0 && x+n*(i+1) >= counted[0] {
				return n
			}
		}
	}
}

// ask holds With, Dearer, Idle and Often of a kind against the greatest worths of plans that have just so many planks of it.
func ask(t *testing.T, s api.Saw, w, h, kind int, counted []int) (dear int) {
	t.Helper()
	with := most(counted[1:])
	can := with >= 0
	if can {
		dear = dearer(counted)
	} else {
		with = 0
	}
	if n, ok, e := plank.With(s, w, h, kind); n != with || ok != can || e != api.OK {
		t.Fatalf("With(%v, %d, %d, %d): %d, %v, error %d, want %d, %v", s, w, h, kind, n, ok, e, with, can)
	}
	if n, ok, e := plank.Dearer(s, w, h, kind); n != dear || ok != can || e != api.OK {
		t.Fatalf("Dearer(%v, %d, %d, %d): %d, %v, error %d, want %d, %v", s, w, h, kind, n, ok, e, dear, can)
	}
	var often []int
	for i, x := range counted {
		if x == most(counted) {
			often = append(often, i)
		}
	}
	if least, most, e := plank.Often(s, w, h, kind); least != often[0] || most != often[len(often)-1] || e != api.OK {
		t.Fatalf("Often(%v, %d, %d, %d): %d, %d, error %d, want %v", s, w, h, kind, least, most, e, often)
	}
	if l, e := plank.Idle(s, w, h); slices.Contains(l, kind) != (often[len(often)-1] == 0) || !isSet(l) || e != api.OK {
		t.Fatalf("Idle(%v, %d, %d): %v, error %d, want %v of %d", s, w, h, l, e, often, kind)
	}
	return dear
}

// isSet reports whether a list is strictly ascending.
func isSet(l []int) bool { return slices.IsSorted(l) && len(slices.Compact(slices.Clone(l))) == len(l) }

// E2, E5, E7, E8: what is best and what could be, against all that can be used at all.
func TestE7Outcomes(t *testing.T) {
	boards, dear := 0, map[int]int{}
	for _, s := range samples(60, 4, 3, 12) {
		sets := outcomes(s, 4, 4)
		for b, set := range sets {
			if b[0] == 0 || b[1] == 0 {
				continue
			}
			boards++
			greatest, cells := 0, 0
			for u := range set {
				greatest = max(greatest, worthOf(s, u))
				n := 0
				for i, k := range s.Kinds {
					n += u[i] * k.W * k.H
				}
				cells = max(cells, n)
			}
			if n := best(s, b[0], b[1]); n != greatest {
				t.Fatalf("Best(%v, %v): %d, want %d", s, b, n, greatest)
			}
			if waste, p, e := plank.Fill(s, b[0], b[1]); waste != b[0]*b[1]-cells || e != api.OK {
				t.Fatalf("Fill(%v, %v): %d, %v, error %d, want %d cells", s, b, waste, p, e, cells)
			}
			for kind := range s.Kinds {
				counted := slices.Repeat([]int{none}, 20)
				for u := range set {
					counted[u[kind]] = max(counted[u[kind]], worthOf(s, u))
				}
				dear[min(3, ask(t, s, b[0], b[1], kind, counted))]++
			}
		}
	}
	if boards < 500 || dear[1] < 20 || dear[2] < 20 || dear[3] < 20 {
		t.Errorf("only %d boards, rises %v", boards, dear)
	}
}

// E7, E8: kinds of larger boards, against the greatest worths of plans with just so many planks.
func TestE7Counted(t *testing.T) {
	r := rand.New(rand.NewPCG(5, 7))
	dear := map[bool]int{}
	for _, s := range samples(40, 6, 7, 60) {
		w, h := 1+r.IntN(11), 1+r.IntN(11)
		for kind := range s.Kinds {
			dear[ask(t, s, w, h, kind, counted(s, w, h, kind)) > 0]++
		}
	}
	if dear[true] < 10 || dear[false] < 10 {
		t.Errorf("rises: %v", dear)
	}
}

// E7: a rise can be greater than any Worth, and a Worth greater than that of a saw.
func TestE7DearerThanAll(t *testing.T) {
	s := api.Saw{Kinds: []api.Kind{{Id: 1, W: 1, H: 1, Worth: api.MaxWorth}, {Id: 2, W: 16, H: 16, Worth: 3}, {Id: 3, W: 2, H: 3, Worth: api.MaxWorth}, {Id: 4, W: 16, H: 17 - 1}}}
	for kind, want := range []int{0, 256*api.MaxWorth - 3, 5 * api.MaxWorth, 256 * api.MaxWorth} {
		if n, ok, e := plank.Dearer(s, 16, 16, kind); n != want || !ok || e != api.OK {
			t.Errorf("Dearer of %d: %d, %v, error %d, want %d", kind, n, ok, e, want)
		}
	}
	if n, ok, e := plank.Dearer(s, 15, 16, 1); n != 0 || ok || e != api.OK {
		t.Errorf("Dearer of what is too large: %d, %v, error %d", n, ok, e)
	}
	if l, e := plank.Idle(s, 16, 16); !slices.Equal(l, []int{1, 2, 3}) || e != api.OK {
		t.Errorf("Idle: %v, error %d", l, e)
	}
	if l, e := plank.Idle(api.Saw{}, 16, 16); len(l) != 0 || e != api.OK {
		t.Errorf("Idle without kinds: %v, error %d", l, e)
	}
	// Planks that are worth nothing are as good as waste.
	free := api.Saw{Kinds: []api.Kind{{Id: 1, W: 1, H: 1}}}
	if least, most, e := plank.Often(free, 16, 16, 0); least != 0 || most != 256 || e != api.OK {
		t.Errorf("Often: %d, %d, error %d", least, most, e)
	}
}

// E6: depths of small boards, against all plans.
func TestE6AllPlans(t *testing.T) {
	for _, s := range tiny() {
		for _, b := range small() {
			var shallow [41]int
			for _, p := range all(s, b[0], b[1]) {
				x, _ := look(s, b[0], b[1], p)
				for depth := x.depth; depth <= 40; depth++ {
					shallow[depth] = max(shallow[depth], x.worth)
				}
			}
			for depth, want := range shallow {
				if n, e := plank.Shallow(s, b[0], b[1], depth); n != want || e != api.OK {
					t.Fatalf("Shallow(%v, %v, %d): %d, error %d, want %d", s, b, depth, n, e, want)
				}
			}
			want := slices.Index(shallow[:], shallow[40])
			if n, e := plank.Enough(s, b[0], b[1]); n != want || e != api.OK {
				t.Fatalf("Enough(%v, %v): %d, error %d, want %d", s, b, n, e, want)
			}
		}
	}
}

// P5.6: Shallow is the greatest worth of plans of each depth of larger boards, does not fall, and is Best from Enough on.
func TestP56Depth(t *testing.T) {
	r := rand.New(rand.NewPCG(5, 6))
	enoughs := map[int]int{}
	for _, s := range samples(60, 6, 4, 30) {
		w, h := 1+r.IntN(12), 1+r.IntN(12)
		enough, e := plank.Enough(s, w, h)
		if e != api.OK {
			t.Fatalf("Enough(%v, %d, %d): error %d", s, w, h, e)
		}
		enoughs[enough]++
		greatest, alone := best(s, w, h), 0
		for _, n := range leaves(s, w, h)[1:] {
			alone = max(alone, s.Kinds[n.At].Worth)
		}
		before := 0
		for depth := range 41 {
			n, e := plank.Shallow(s, w, h, depth)
			if e != api.OK || n < before || depth == 0 && n != alone || (n == greatest) != (depth >= enough) {
				t.Fatalf("Shallow(%v, %d, %d, %d): %d, error %d; before: %d, Best: %d from %d on, alone: %d", s, w, h, depth, n, e, before, greatest, enough, alone)
			}
			before = n
		}
		for range 30 {
			x, _ := look(s, w, h, wide(r, s, w, h))
			if n, _ := plank.Shallow(s, w, h, x.depth); x.worth > n {
				t.Fatalf("Shallow(%v, %d, %d, %d): %d, but a plan has %d", s, w, h, x.depth, n, x.worth)
			}
		}
	}
	if len(enoughs) < 6 {
		t.Errorf("depths: %v", enoughs)
	}
	// Boards of 1 x 1, as many as there can be: halves of halves.
	ones := api.Saw{Kinds: []api.Kind{{Id: 1, W: 1, H: 1, Worth: 1}}}
	for _, x := range []struct{ kerf, w, h, depth, enough int }{{0, 16, 16, 8, 8}, {0, 16, 1, 4, 4}, {0, 9, 1, 4, 4}, {0, 8, 1, 3, 3}, {1, 16, 16, 8, 8}, {2, 16, 1, 3, 3}} {
		ones.Kerf = x.kerf
		if n, e := plank.Enough(ones, x.w, x.h); n != x.enough || e != api.OK {
			t.Errorf("Enough with kerf %d of %d x %d: %d, error %d, want %d", x.kerf, x.w, x.h, n, e, x.enough)
		}
	}
}

// E6: a depth is from 0 to 40.
func TestE6NoDepth(t *testing.T) {
	for _, depth := range []int{-1, 41, -1 << 63, 1<<63 - 1} {
		if n, e := plank.Shallow(sawS(), 5, 2, depth); n != 0 || e != api.ErrArg {
			t.Errorf("Shallow with depth %d: %d, error %d", depth, n, e)
		}
	}
	for _, depth := range []int{1, 40} {
		if n, e := plank.Shallow(sawS(), 5, 2, depth); n != 11 || e != api.OK {
			t.Errorf("Shallow with depth %d: %d, error %d", depth, n, e)
		}
	}
}

// E5, P5.7: the waste of any plan is at least that of Fill, which a plan has.
func TestP57Waste(t *testing.T) {
	r := rand.New(rand.NewPCG(5, 8))
	wastes := map[int]bool{}
	for _, s := range append(samples(80, 12, 9, api.MaxWorth), full()) {
		w, h := 1+r.IntN(16), 1+r.IntN(16)
		waste, p, e := plank.Fill(s, w, h)
		if x, ok := look(s, w, h, p); !ok || x.waste != waste || e != api.OK {
			t.Fatalf("Fill(%v, %d, %d): %d, %v, error %d", s, w, h, waste, p, e)
		}
		cells := s
		for kind, k := range s.Kinds {
			cells, e = plank.Raised(cells, kind, k.W*k.H)
			if e != api.OK {
				t.Fatalf("Raised: error %d", e)
			}
		}
		if n := best(cells, w, h); waste != w*h-n {
			t.Fatalf("Fill(%v, %d, %d): %d, but Best is %d", s, w, h, waste, n)
		}
		wastes[waste] = true
		plans := [][]api.Node{}
		p, _ = plank.Plan(s, w, h)
		plans = append(plans, p)
		for range 20 {
			plans = append(plans, wide(r, s, w, h))
		}
		for _, p := range plans {
			if n, e := plank.Waste(s, w, h, p); n < waste || e != api.OK {
				t.Fatalf("Waste(%v, %d, %d, %v): %d, error %d, but Fill has %d", s, w, h, p, n, e, waste)
			}
		}
	}
	if len(wastes) < 20 {
		t.Errorf("wastes: %v", wastes)
	}
}

// P5.4: Best with other kinds and other Worths.
func TestP54Kinds(t *testing.T) {
	r := rand.New(rand.NewPCG(5, 5))
	idle := 0
	for _, s := range samples(150, 6, 6, 40) {
		w, h := 1+r.IntN(10), 1+r.IntN(10)
		n := best(s, w, h)
		more, e := plank.WithKind(s, api.Kind{Id: 7, W: 1 + r.IntN(4), H: 1 + r.IntN(4), Worth: r.IntN(40), Turn: true})
		if e != api.OK || best(more, w, h) < n {
			t.Fatalf("Best(%v, %d, %d): %d, but less with %v, error %d", s, w, h, n, more, e)
		}
		l, e := plank.Idle(s, w, h)
		if e != api.OK {
			t.Fatalf("Idle: error %d", e)
		}
		for kind := range s.Kinds {
			less, e := plank.Without(s, kind)
			isIdle := slices.Contains(l, kind)
			m := best(less, w, h)
			if e != api.OK || m > n || isIdle && m != n {
				t.Fatalf("Best(%v, %d, %d): %d, without %d: %d, error %d", s, w, h, n, kind, m, e)
			}
			if isIdle {
				idle++
			}
			least, most, e := plank.Often(s, w, h, kind)
			if e != api.OK {
				t.Fatalf("Often: error %d", e)
			}
			for _, by := range []int{1, 5, 1000} {
				up, e := plank.Raised(s, kind, s.Kinds[kind].Worth+by)
				if m := best(up, w, h); e != api.OK || m < n+by*most {
					t.Fatalf("Best(%v, %d, %d): %d, with %d more for %d: %d, Often %d, error %d", s, w, h, n, by, kind, m, most, e)
				}
				by = min(by, s.Kinds[kind].Worth)
				down, e := plank.Raised(s, kind, s.Kinds[kind].Worth-by)
				if m := best(down, w, h); e != api.OK || m < n-by*least {
					t.Fatalf("Best(%v, %d, %d): %d, with %d less for %d: %d, Often %d, error %d", s, w, h, n, by, kind, m, least, e)
				}
			}
		}
	}
	if idle < 50 {
		t.Errorf("only %d idle kinds", idle)
	}
}

// P5.5: With, Dearer and Idle say the same.
func TestP55WhatCouldBe(t *testing.T) {
	r := rand.New(rand.NewPCG(5, 9))
	cases := map[string]int{}
	for _, s := range samples(120, 6, 6, 40) {
		w, h := 1+r.IntN(10), 1+r.IntN(10)
		n := best(s, w, h)
		idle, e := plank.Idle(s, w, h)
		if e != api.OK {
			t.Fatalf("Idle: error %d", e)
		}
		for kind, k := range s.Kinds {
			isIdle := slices.Contains(idle, kind)
			worth, can, e := plank.With(s, w, h, kind)
			rise, could, f := plank.Dearer(s, w, h, kind)
			if e != api.OK || f != api.OK || can != could || worth > n || (can && worth == n) == isIdle || (can && rise == 0) == isIdle || !can && !isIdle {
				t.Fatalf("(%v, %d, %d, %d): With %d, %v; Dearer %d, %v; idle %v; Best %d, errors %d, %d", s, w, h, kind, worth, can, rise, could, isIdle, n, e, f)
			}
			switch {
			case !can:
				cases["none"]++
				continue
			case rise == 0:
				cases["0"]++
			default:
				cases["more"]++
			}
			for by, want := range map[int]bool{rise: false, rise - 1: true} {
				up, e := plank.Raised(s, kind, k.Worth+by)
				if by < 0 {
					continue
				}
				l, f := plank.Idle(up, w, h)
				if e != api.OK || f != api.OK || slices.Contains(l, kind) != want {
					t.Fatalf("(%v, %d, %d, %d): Dearer %d, Idle with %d more: %v, errors %d, %d", s, w, h, kind, rise, by, l, e, f)
				}
			}
		}
	}
	if cases["none"] < 10 || cases["0"] < 50 || cases["more"] < 50 {
		t.Errorf("cases: %v", cases)
	}
}
