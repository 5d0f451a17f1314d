package trace_test

import (
	"math/rand/v2"
	"slices"
	"testing"

	"strickle/api"
	"strickle/trace"
)

func TestD11Undo(t *testing.T) {
	undone, late := 0, 0
	for _, h := range append(some(), long()...) {
		for i, a := range h.Acts {
			want := slices.Delete(slices.Clone(h.Acts), i, i+1)
			// An act can be the last one if exchanges take it behind all that follow it.
			ok := !slices.ContainsFunc(h.Acts[i+1:], func(b api.Action) bool { return !apart(h.Pattern, a, b) })
			x, e := trace.Undo(h, i)
			if !ok {
				late++
				if !zero(x) || e != api.ErrLate {
					t.Fatalf("Undo(%x, %d): %x, error %d", h, i, x, e)
				}
				continue
			}
			undone++
			if !is(x, h.Pattern, want) || e != api.OK {
				t.Fatalf("Undo(%x, %d): %x, error %d, want %x", h, i, x, e, want)
			}
			// P4.7: with the same act again, the history is equal to what it was.
			again, e := trace.Act(x, a)
			same, f := trace.Equal(again, h)
			if !same || e != api.OK || f != api.OK {
				t.Fatalf("Act(%x, %x): %x, equal: %v, errors %d, %d", x, a, again, same, e, f)
			}
		}
		for _, i := range append(wrongNumbers(), len(h.Acts), len(h.Acts)+1) {
			if x, e := trace.Undo(h, i); !zero(x) || e != api.ErrArg {
				t.Fatalf("Undo(%x, %d): %x, error %d", h, i, x, e)
			}
		}
	}
	if min(undone, late) < 100 {
		t.Errorf("%d acts are undone, %d are late", undone, late)
	}
}

// turns returns the pairs of indices of acts that are a turn, as the definition says.
func turns(p api.Pattern, acts []api.Action) [][2]int {
	var l [][2]int
	for j, b := range acts {
		for i, a := range acts[:j] {
			if a.Piece != b.Piece || !(a.Kind == api.ActFit && b.Kind == api.ActTake || a.Kind == api.ActTake && b.Kind == api.ActFit) {
				continue
			}
			if !slices.ContainsFunc(acts[i+1:j], func(c api.Action) bool { return !apart(p, a, c) || !apart(p, b, c) }) {
				l = append(l, [2]int{i, j})
			}
		}
	}
	return l
}

// turnless leaves turns out, by a choice each time, until there is none.
func turnless(p api.Pattern, acts []api.Action, choose func(n int) int) []api.Action {
	left := slices.Clone(acts)
	for l := turns(p, left); len(l) > 0; l = turns(p, left) {
		x := l[choose(len(l))]
		left = slices.Delete(left, x[1], x[1]+1)
		left = slices.Delete(left, x[0], x[0]+1)
	}
	return left
}

// D11 and P4.6: Reduced is the normal form of what is left, whichever turns are left out first.
func TestD11Reduced(t *testing.T) {
	r := rand.New(rand.NewPCG(33, 34))
	several := 0
	l := some()
	for _, h := range drawn(20, 3) {
		l = append(l, api.History{Pattern: h.Pattern, Acts: turned(r, h.Pattern, h.Acts, 6)})
	}
	for _, h := range l {
		if len(turns(h.Pattern, h.Acts)) > 1 {
			several++
		}
		for _, choose := range []func(n int) int{func(int) int { return 0 }, func(n int) int { return n - 1 }, r.IntN, r.IntN} {
			want := least(h.Pattern, turnless(h.Pattern, h.Acts, choose))
			if x, e := trace.Reduced(h); !is(x, h.Pattern, want) || e != api.OK {
				t.Fatalf("Reduced(%x): %x, error %d, want %x", h, x, e, want)
			}
		}
	}
	if several < 50 {
		t.Errorf("only %d histories have several turns", several)
	}
}

func TestD11ReducedOfSome(t *testing.T) {
	a, c, f0, t0, f1, t1 := cutA(), cutC(), fit(0), take(0), fit(1), take(1)
	cut0 := cut(at(0, 0, 1))
	twins := full8()
	for _, x := range []struct{ h, want api.History }{
		{of(), of()},
		{of(a, c), of(c, a)},
		{of(swings(0, 60)...), of()},
		{of(swings(1, 59)...), of(f1)},
		{of(f0, a, t0, f1, c, t1, f0), of(c, a, f0)},
		// A piece that is on when it is taken off and fitted.
		{of(f0, t0, a, f0), of(a, f0)},
		{of(f1, t1, f0, t0, f1), of(f1)},
		// One turn within another one.
		{of(f1, t1, f0, t0, f0, t0, f1, t1, a), of(a)},
		// The wood of a piece that was cut away does not come back.
		{of(f0, cut0, f1, t0, cut(at(1, 0, 1)), f0, t0), of(f0, cut0, f1, cut(at(1, 0, 1)), t0)},
		// Acts of two pieces with the same cells are no turn.
		{api.History{Pattern: twins, Acts: []api.Action{f0, cut0, f1, t0}}, api.History{Pattern: twins, Acts: []api.Action{f0, cut0, f1, t0}}},
		// A turn of a piece that is taken off first, and then one round it.
		{api.History{Pattern: twins, Acts: []api.Action{f0, cut0, f1, t0, f0, t1}}, api.History{Pattern: twins, Acts: []api.Action{f0, cut0}}},
	} {
		if y, e := trace.Reduced(x.h); !is(y, x.want.Pattern, x.want.Acts) || e != api.OK {
			t.Errorf("Reduced(%x): %x, error %d, want %x", x.h.Acts, y.Acts, e, x.want.Acts)
		}
	}
}

// P4.6: Reduced leaves the same stand, and is reduced.
func TestP46Stand(t *testing.T) {
	less := 0
	for _, h := range append(some(), long()...) {
		x, e := trace.Reduced(h)
		if e != api.OK || !samePattern(x.Pattern, h.Pattern) || len(turns(x.Pattern, x.Acts)) > 0 {
			t.Fatalf("Reduced(%x): %x, error %d, and it has turns: %v", h, x, e, turns(x.Pattern, x.Acts))
		}
		before, e := trace.Stand(h)
		after, f := trace.Stand(x)
		if before != after || e != api.OK || f != api.OK {
			t.Fatalf("Reduced(%x): %x, stands %x and %x, errors %d, %d", h, x, before, after, e, f)
		}
		again, e := trace.Reduced(x)
		if !is(again, x.Pattern, x.Acts) || e != api.OK {
			t.Fatalf("Reduced(%x): %x, error %d", x, again, e)
		}
		if len(x.Acts) < len(h.Acts) {
			less++
		}
	}
	if less < 30 {
		t.Errorf("only %d histories have turns", less)
	}
}

// turned returns a list of acts with turns put into it, at most so many acts in all.
func turned(r *rand.Rand, p api.Pattern, acts []api.Action, most int) []api.Action {
	l := slices.Clone(acts)
	for range 40 {
		if len(p.Pieces) == 0 || len(l)+2 > most {
			break
		}
		n, piece := r.IntN(len(l)+1), r.IntN(len(p.Pieces))
		b := benchOf(p)
		for _, a := range l[:n] {
			b.do(a)
		}
		for _, x := range [][]api.Action{{fit(piece), take(piece)}, {take(piece), fit(piece)}} {
			if b.try(x[0]) == api.OK {
				l = slices.Insert(l, n, x...)
				break
			}
		}
	}
	return l
}

// P4.6: two histories that differ by turns alone have the same one.
func TestP46Turns(t *testing.T) {
	r := rand.New(rand.NewPCG(35, 36))
	more := 0
	for _, h := range append(some(), drawn(10, 30)...) {
		x := api.History{Pattern: h.Pattern, Acts: mixed(r, h.Pattern, turned(r, h.Pattern, h.Acts, 60))}
		if len(x.Acts) > len(h.Acts)+6 {
			more++
		}
		y, e := trace.Reduced(x)
		z, f := trace.Reduced(h)
		if !is(y, z.Pattern, z.Acts) || e != api.OK || f != api.OK {
			t.Fatalf("Reduced(%x): %x, without turns %x: %x, errors %d, %d", x, y, h, z, e, f)
		}
	}
	if more < 50 {
		t.Errorf("only %d histories have many turns more", more)
	}
}
