package trace_test

import (
	"math/rand/v2"
	"slices"
	"testing"

	"strickle/api"
	"strickle/trace"
)

func TestD1CheckPattern(t *testing.T) {
	one := made(at(7, 0, 3))
	eight := slices.Repeat([]api.Solid{one}, 8)
	for _, p := range append(patterns(), api.Pattern{Blank: one}, api.Pattern{Blank: one, Pieces: []api.Solid{}}, api.Pattern{Blank: one, Pieces: eight}, api.Pattern{Blank: full(), Pieces: []api.Solid{full()}}) {
		if e := trace.CheckPattern(p); e != api.OK {
			t.Errorf("CheckPattern(%x): error %d", p, e)
		}
	}
	nine := slices.Repeat([]api.Solid{one}, 9)
	for _, x := range []struct {
		p api.Pattern
		e api.Errno
	}{
		{api.Pattern{}, api.ErrArg},
		{api.Pattern{Pieces: eight}, api.ErrArg},
		{api.Pattern{Blank: one, Pieces: []api.Solid{{}}}, api.ErrArg},
		{api.Pattern{Blank: one, Pieces: slices.Concat(eight[:7], []api.Solid{{}})}, api.ErrArg},
		{api.Pattern{Blank: one, Pieces: slices.Concat([]api.Solid{{}}, eight[:7])}, api.ErrArg},
		{api.Pattern{Blank: one, Pieces: nine}, api.ErrLimit},
		{api.Pattern{Pieces: nine}, api.ErrLimit},
		{api.Pattern{Blank: one, Pieces: make([]api.Solid, 9)}, api.ErrLimit},
		{api.Pattern{Blank: one, Pieces: make([]api.Solid, 10000)}, api.ErrLimit},
	} {
		if e := trace.CheckPattern(x.p); e != x.e {
			t.Errorf("CheckPattern(%x): error %d, want %d", x.p, e, x.e)
		}
	}
}

// wrongPatterns are patterns that are none, with the error of CheckPattern.
func wrongPatterns() map[api.Errno]api.Pattern {
	return map[api.Errno]api.Pattern{
		api.ErrArg:   {Pieces: []api.Solid{made(at(0, 0, 0))}},
		api.ErrLimit: {Pieces: make([]api.Solid, 9)},
	}
}

func TestD1CheckAction(t *testing.T) {
	for _, p := range patterns() {
		n := len(p.Pieces)
		good := []api.Action{cutA(), cut(at(7, 7, 7)), {Kind: api.ActCut, Cells: full()}}
		bad := append(wrongActions(), fit(n), take(n), fit(n+1))
		for i := range n {
			good = append(good, fit(i), take(i))
		}
		for _, a := range good {
			if e := trace.CheckAction(p, a); e != api.OK {
				t.Errorf("CheckAction(%x, %x): error %d", p, a, e)
			}
		}
		for _, a := range bad {
			if e := trace.CheckAction(p, a); e != api.ErrArg {
				t.Errorf("CheckAction(%x, %x): error %d", p, a, e)
			}
		}
	}
	for want, p := range wrongPatterns() {
		for _, a := range []api.Action{cutA(), fit(0), take(9), {}} {
			if e := trace.CheckAction(p, a); e != want {
				t.Errorf("CheckAction(%x, %x): error %d", p, a, e)
			}
		}
	}
}

// actionsOf are actions that a pattern can have.
func actionsOf(p api.Pattern) []api.Action {
	l := []api.Action{cutA(), cutB(), cutC(), cut(at(0, 0, 1)), cut(at(1, 0, 1), at(1, 0, 0)), cut(at(7, 7, 7)), cut(at(5, 5, 5), at(0, 0, 5)), {Kind: api.ActCut, Cells: full()}}
	for i := range p.Pieces {
		l = append(l, fit(i), take(i))
	}
	return l
}

func TestD2CellsAndIndependent(t *testing.T) {
	yes, no := 0, 0
	for _, p := range patterns() {
		for _, a := range actionsOf(p) {
			if s, e := trace.Cells(p, a); !slices.Equal(cellsOf(s), touched(p, a)) || e != api.OK {
				t.Errorf("Cells(%x, %x): %x, error %d", p, a, s, e)
			}
			for _, b := range actionsOf(p) {
				ok, e := trace.Independent(p, a, b)
				if ok != apart(p, a, b) || e != api.OK {
					t.Errorf("Independent(%x, %x, %x): %v, error %d", p, a, b, ok, e)
				}
				if ok {
					yes++
				} else {
					no++
				}
			}
		}
	}
	if min(yes, no) < 100 {
		t.Errorf("%d pairs are independent, %d are not", yes, no)
	}
}

func TestD2Wrong(t *testing.T) {
	for _, p := range patterns() {
		for _, a := range append(wrongActions(), fit(len(p.Pieces))) {
			if s, e := trace.Cells(p, a); s != (api.Solid{}) || e != api.ErrArg {
				t.Errorf("Cells(%x, %x): %x, error %d", p, a, s, e)
			}
			for _, x := range [][2]api.Action{{a, cutA()}, {cutA(), a}, {a, a}} {
				if ok, e := trace.Independent(p, x[0], x[1]); ok || e != api.ErrArg {
					t.Errorf("Independent(%x, %x): %v, error %d", p, x, ok, e)
				}
			}
		}
	}
	for want, p := range wrongPatterns() {
		for _, a := range []api.Action{cutA(), fit(0), {}} {
			if s, e := trace.Cells(p, a); s != (api.Solid{}) || e != want {
				t.Errorf("Cells(%x, %x): %x, error %d", p, a, s, e)
			}
			if ok, e := trace.Independent(p, a, cutC()); ok || e != want {
				t.Errorf("Independent(%x, %x): %v, error %d", p, a, ok, e)
			}
		}
	}
}

func TestD3CheckAndD4Stand(t *testing.T) {
	for _, h := range append(some(), long()...) {
		if at, e := trace.Check(h); at != 0 || e != api.OK {
			t.Fatalf("Check(%x): %d, error %d", h, at, e)
		}
		_, _, want := done(h.Pattern, h.Acts)
		if s, e := trace.Stand(h); s != want || e != api.OK {
			t.Fatalf("Stand(%x): %x, error %d, want %x", h, s, e, want)
		}
	}
}

// blindAct returns an action of a pattern that is possible or not.
func blindAct(r *rand.Rand, p api.Pattern) api.Action {
	cells := cellsOf(p.Blank)
	for _, s := range p.Pieces {
		cells = append(cells, cellsOf(s)...)
	}
	switch r.IntN(12) {
	case 0:
		return wrongActions()[r.IntN(len(wrongActions()))]
	case 1, 2, 3:
		return cut(cells[r.IntN(len(cells))], cells[r.IntN(len(cells))])
	case 4, 5, 6, 7:
		return fit(r.IntN(len(p.Pieces) + 1))
	}
	return take(r.IntN(len(p.Pieces) + 1))
}

// D3 and D4: whatever is written behind a history, Check refuses what the definition refuses, and Act does too.
func TestD3Refused(t *testing.T) {
	r := rand.New(rand.NewPCG(25, 26))
	counts := map[api.Errno]int{}
	for range 20 {
		for _, h := range drawn(10, 6) {
			for range 1 + r.IntN(3) {
				h.Acts = append(slices.Clip(h.Acts), blindAct(r, h.Pattern))
			}
			at, e, stand := done(h.Pattern, h.Acts)
			if x, f := trace.Check(h); x != at || f != e {
				t.Fatalf("Check(%x): %d, error %d, want %d, error %d", h, x, f, at, e)
			}
			counts[e]++
			if e == api.OK {
				continue
			}
			if s, f := trace.Stand(h); s != (api.Stand{}) || f != e {
				t.Fatalf("Stand(%x): %x, error %d", h, s, f)
			}
			start := api.History{Pattern: h.Pattern, Acts: h.Acts[:at]}
			if s, f := trace.Stand(start); s != stand || f != api.OK {
				t.Fatalf("Stand(%x): %x, error %d, want %x", start, s, f, stand)
			}
			if x, f := trace.Act(start, h.Acts[at]); !zero(x) || f != e {
				t.Fatalf("Act(%x, %x): %x, error %d, want %d", start, h.Acts[at], x, f, e)
			}
		}
	}
	for _, e := range []api.Errno{api.OK, api.ErrArg, api.ErrCut, api.ErrPlace, api.ErrPiece} {
		if counts[e] < 20 {
			t.Errorf("error %d: only %d times", e, counts[e])
		}
	}
}

func TestD3Wrong(t *testing.T) {
	for _, x := range wrongOnes() {
		if at, e := trace.Check(x.h); at != x.at || e != x.e {
			t.Errorf("Check(%x): %d, error %d, want %d, error %d", x.h, at, e, x.at, x.e)
		}
	}
	// A piece that is on, and of which a cell is not wood or wood of another piece, is on all the same.
	h := of(fit(0), cut(at(0, 0, 1)), fit(1))
	if s, e := trace.Stand(h); s.On != 3 || s.Wood[1] != 3 || e != api.OK {
		t.Errorf("Stand: %x, error %d", s, e)
	}
	h, e := trace.Act(h, take(0))
	if s, f := trace.Stand(h); s.On != 2 || s.Wood[1] != 2 || e != api.OK || f != api.OK {
		t.Errorf("Stand: %x, errors %d, %d", s, e, f)
	}
	if _, e := trace.Act(h, take(1)); e != api.ErrCut {
		t.Errorf("Act: error %d", e)
	}
	// All of the wood may be cut, and all pieces be on.
	if s, e := trace.Stand(of(api.Action{Kind: api.ActCut, Cells: blockB()})); s != (api.Stand{}) || e != api.OK {
		t.Errorf("Stand: %x, error %d", s, e)
	}
	var p api.Pattern
	var acts []api.Action
	p.Blank = made(at(0, 0, 0))
	for i := range 8 {
		p.Pieces = append(p.Pieces, made(at(i, 7, 7)))
		acts = append(acts, fit(i))
	}
	if s, e := trace.Stand(api.History{Pattern: p, Acts: acts}); s != (api.Stand{Wood: api.Solid{1, 7: 0xff << 56}, On: 255}) || e != api.OK {
		t.Errorf("Stand: %x, error %d", s, e)
	}
}

func TestD4Act(t *testing.T) {
	for _, h := range append(some(), long()...) {
		so := api.History{Pattern: h.Pattern}
		for i, a := range h.Acts {
			next, e := trace.Act(so, a)
			if !is(next, h.Pattern, h.Acts[:i+1]) || e != api.OK {
				t.Fatalf("Act(%x, %x): %x, error %d", so, a, next, e)
			}
			so = next
		}
	}
	for _, l := range [][]api.Action{swings(0, 60), make([]api.Action, 60)} {
		h := of(l[:59]...)
		h.Acts = append(slices.Clip(h.Acts), l[59])
		e := api.ErrLimit
		if l[0] == (api.Action{}) {
			e = api.ErrArg // Check of the history itself comes first
		}
		for _, a := range []api.Action{fit(0), take(0), cutA(), {}} {
			if x, f := trace.Act(h, a); !zero(x) || f != e {
				t.Errorf("Act to 60 acts, %x: %x, error %d, want %d", a, x, f, e)
			}
		}
	}
	for _, x := range wrongOnes() {
		for _, a := range []api.Action{cutA(), fit(0), {}} {
			if h, e := trace.Act(x.h, a); !zero(h) || e != x.e {
				t.Errorf("Act(%x, %x): %x, error %d, want %d", x.h, a, h, e, x.e)
			}
		}
	}
}
