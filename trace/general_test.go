package trace_test

import (
	"slices"
	"testing"

	"strickle/api"
	"strickle/trace"
)

// P4.1: the chapter's table of examples, of single histories.
func TestP41Examples(t *testing.T) {
	a, b, c, f0, t0, f1 := cutA(), cutB(), cutC(), fit(0), take(0), fit(1)
	if a.Cells[0] != 134217728 || c.Cells[0] != 1 {
		t.Fatalf("the planes of a and c are %d and %d", a.Cells[0], c.Cells[0])
	}
	for _, x := range []struct {
		a, b api.Action
		want bool
	}{{a, c, true}, {a, b, false}, {f0, f1, false}} {
		if ok, e := trace.Independent(patternB(), x.a, x.b); ok != x.want || e != api.OK {
			t.Errorf("Independent(%x, %x): %v, error %d", x.a, x.b, ok, e)
		}
	}
	for _, x := range []struct {
		h  api.History
		at int
		e  api.Errno
	}{{of(a, b), 1, api.ErrCut}, {of(f0, f1), 1, api.ErrPlace}, {of(t0), 0, api.ErrPiece}, {of(), 0, api.OK}} {
		if at, e := trace.Check(x.h); at != x.at || e != x.e {
			t.Errorf("Check(%x): %d, error %d", x.h.Acts, at, e)
		}
	}
	if s, e := trace.Stand(of(c, f0)); s != (api.Stand{Wood: api.Solid{0x0f0f0f0e, 1}, On: 1}) || e != api.OK {
		t.Errorf("Stand: %x, error %d", s, e)
	}
	if h, e := trace.Normal(of(f0, c, a)); !is(h, patternB(), []api.Action{c, a, f0}) || e != api.OK {
		t.Errorf("Normal: %x, error %d", h.Acts, e)
	}
	if ok, e := trace.Equal(of(a, c), of(c, a)); !ok || e != api.OK {
		t.Errorf("Equal: %v, error %d", ok, e)
	}
	if ok, e := trace.Equal(of(f0, t0), of()); ok || e != api.OK {
		t.Errorf("Equal: %v, error %d", ok, e)
	}
	for i, want := range map[int]api.Errno{2: api.ErrLate, 0: api.OK} {
		h, e := trace.Undo(of(a, c, f0, t0), i)
		if e != want || e != api.OK && !zero(h) || e == api.OK && !is(h, patternB(), []api.Action{c, f0, t0}) {
			t.Errorf("Undo of %d: %x, error %d", i, h.Acts, e)
		}
	}
	for _, x := range []struct{ h, want []api.Action }{{[]api.Action{f0, a, t0, c}, []api.Action{c, a}}, {[]api.Action{f0, t0, f0}, []api.Action{f0}}} {
		if h, e := trace.Reduced(of(x.h...)); !is(h, patternB(), x.want) || e != api.OK {
			t.Errorf("Reduced: %x, error %d", h.Acts, e)
		}
	}
}

// P4.1: the chapter's table of examples, of orders and of two histories.
func TestP41ExamplesOfOrdersAndOfTwo(t *testing.T) {
	a, b, c, f0, t0 := cutA(), cutB(), cutC(), fit(0), take(0)
	h := of(a, c, f0, t0)
	if l, e := trace.Steps(h); len(l) != 2 || !slices.Equal(l[0], []api.Action{c, a, f0}) || !slices.Equal(l[1], []api.Action{t0}) || e != api.OK {
		t.Errorf("Steps: %x, error %d", l, e)
	}
	if l, e := trace.First(h); !slices.Equal(l, []int{0, 1, 2}) || e != api.OK {
		t.Errorf("First: %v, error %d", l, e)
	}
	if l, e := trace.Last(h); !slices.Equal(l, []int{0, 1, 3}) || e != api.OK {
		t.Errorf("Last: %v, error %d", l, e)
	}
	if l, e := trace.Needs(h, 3); !slices.Equal(l, []int{2}) || e != api.OK {
		t.Errorf("Needs: %v, error %d", l, e)
	}
	if n, e := trace.Orders(h); n != 12 || e != api.OK {
		t.Errorf("Orders: %d, error %d", n, e)
	}
	if x, e := trace.Common(of(a, c), of(c, f0)); !is(x, patternB(), []api.Action{c}) || e != api.OK {
		t.Errorf("Common: %x, error %d", x.Acts, e)
	}
	if x, e := trace.Merge(of(a, c), of(c, f0)); !is(x, patternB(), []api.Action{c, a, f0}) || e != api.OK {
		t.Errorf("Merge: %x, error %d", x.Acts, e)
	}
	if x, e := trace.Merge(of(a), of(b)); !zero(x) || e != api.ErrClash {
		t.Errorf("Merge: %x, error %d", x.Acts, e)
	}
	if x, y, ok, e := trace.Conflict(of(a), of(b)); x != a || y != b || !ok || e != api.OK {
		t.Errorf("Conflict: %x, %x, %v, error %d", x, y, ok, e)
	}
	if l, e := trace.Rest(of(c), of(a, c, f0)); !slices.Equal(l, []api.Action{a, f0}) || e != api.OK {
		t.Errorf("Rest: %x, error %d", l, e)
	}
	if l, e := trace.Rest(of(b), of(a)); len(l) != 0 || e != api.ErrBegin {
		t.Errorf("Rest: %x, error %d", l, e)
	}
}

// result is how a call ended, and whether all of its other results are zero.
type result struct {
	e    api.Errno
	zero bool
}

// callOne calls each function of one history, but Check, with a number that may be wrong too.
func callOne(h api.History, i int) map[string]result {
	l := map[string]result{}
	s, e := trace.Stand(h)
	l["Stand"] = result{e, s == api.Stand{}}
	x, e := trace.Act(h, cutC())
	l["Act"] = result{e, zero(x)}
	x, e = trace.Normal(h)
	l["Normal"] = result{e, zero(x)}
	steps, e := trace.Steps(h)
	l["Steps"] = result{e, len(steps) == 0}
	some, e := trace.First(h)
	l["First"] = result{e, len(some) == 0}
	some, e = trace.Last(h)
	l["Last"] = result{e, len(some) == 0}
	some, e = trace.Needs(h, i)
	l["Needs"] = result{e, len(some) == 0}
	n, e := trace.Orders(h)
	l["Orders"] = result{e, n == 0}
	x, e = trace.Undo(h, i)
	l["Undo"] = result{e, zero(x)}
	x, e = trace.Reduced(h)
	l["Reduced"] = result{e, zero(x)}
	return l
}

// callTwo calls each function of two histories.
func callTwo(g, h api.History) map[string]result {
	l := map[string]result{}
	ok, e := trace.Equal(g, h)
	l["Equal"] = result{e, !ok}
	ok, e = trace.Begins(g, h)
	l["Begins"] = result{e, !ok}
	acts, e := trace.Rest(g, h)
	l["Rest"] = result{e, len(acts) == 0}
	x, e := trace.Common(g, h)
	l["Common"] = result{e, zero(x)}
	x, e = trace.Merge(g, h)
	l["Merge"] = result{e, zero(x)}
	a, b, ok, e := trace.Conflict(g, h)
	l["Conflict"] = result{e, a == api.Action{} && b == api.Action{} && !ok}
	return l
}

// P4.1: functions with a history first return the error of Check, of the first one, then of the second one, and nothing else then.
func TestP41NotHistories(t *testing.T) {
	check := func(calls map[string]result, h any, e api.Errno) {
		for name, r := range calls {
			if r.e != e || !r.zero {
				t.Errorf("%s(%x): error %d, want %d, other results zero: %v", name, h, r.e, e, r.zero)
			}
		}
	}
	for _, x := range wrongOnes() {
		for _, i := range []int{0, -1, 99} {
			check(callOne(x.h, i), x.h, x.e)
		}
		for _, h := range []api.History{of(), of(cutC()), solo(cuts(0, 60)...), {Pattern: x.h.Pattern}} {
			check(callTwo(x.h, h), x.h, x.e)
			if _, e := trace.Check(h); e == api.OK {
				check(callTwo(h, x.h), x.h, x.e)
			}
		}
		for _, y := range wrongOnes() {
			check(callTwo(x.h, y.h), []api.History{x.h, y.h}, x.e)
		}
	}
}

// spare returns a slice with room behind its elements, and the whole of its memory.
func spare[T any](l []T, behind T) (short, whole []T) {
	whole = append(slices.Clip(slices.Clone(l)), behind, behind)
	return whole[:len(l)], whole
}

// P4.1 with rule R3: arguments stay as they are, also behind their ends.
func TestP41ArgumentsStay(t *testing.T) {
	mark := cut(at(6, 6, 6))
	acts, memory := spare([]api.Action{cutA(), fit(0), take(0), cutC(), fit(1)}, mark)
	pieces, wood := spare(patternB().Pieces, full())
	h := api.History{Pattern: api.Pattern{Blank: blockB(), Pieces: pieces}, Acts: acts}
	g := api.History{Pattern: h.Pattern, Acts: acts[:3]}
	kept, keptWood := slices.Clone(memory), slices.Clone(wood)
	for i := range 6 {
		callOne(h, i)
		callOne(g, i)
		callTwo(g, h)
		callTwo(h, g)
		if e := trace.CheckPattern(h.Pattern); e != api.OK {
			t.Fatalf("CheckPattern: error %d", e)
		}
		if !slices.Equal(memory, kept) || !slices.Equal(wood, keptWood) {
			t.Fatalf("the arguments are %x and %x now", memory, wood)
		}
	}
}

// spoil overwrites all memory of a history, and what lies behind its ends.
func spoil(h api.History) {
	clear(h.Acts[:cap(h.Acts)])
	clear(h.Pattern.Pieces[:cap(h.Pattern.Pieces)])
}

// P4.1 with rule R3: results are new memory.
func TestP41NewMemory(t *testing.T) {
	a, c, f0, t0 := cutA(), cutC(), fit(0), take(0)
	g, h := of(c), of(a, c, f0, t0)
	for range 2 {
		for name, f := range map[string]func() (api.History, api.Errno){
			"Act":     func() (api.History, api.Errno) { return trace.Act(h, fit(1)) },
			"Normal":  func() (api.History, api.Errno) { return trace.Normal(h) },
			"Common":  func() (api.History, api.Errno) { return trace.Common(h, h) },
			"Merge":   func() (api.History, api.Errno) { return trace.Merge(g, h) },
			"Undo":    func() (api.History, api.Errno) { return trace.Undo(h, 3) },
			"Undo 0":  func() (api.History, api.Errno) { return trace.Undo(h, 0) },
			"Reduced": func() (api.History, api.Errno) { return trace.Reduced(h) },
		} {
			x, e := f()
			if len(x.Acts) < 2 || e != api.OK {
				t.Fatalf("%s: %x, error %d", name, x, e)
			}
			y, e := f()
			spoil(x)
			if z, f := f(); !is(z, y.Pattern, y.Acts) || e != api.OK || f != api.OK {
				t.Fatalf("%s: %x, then %x", name, y, z)
			}
			if !is(h, patternB(), []api.Action{a, c, f0, t0}) || !is(g, patternB(), []api.Action{c}) {
				t.Fatalf("%s: the arguments are %x and %x now", name, g, h)
			}
		}
	}
	steps, e := trace.Steps(h)
	_ = append(steps[0], a)
	if len(steps) != 2 || steps[1][0] != t0 || e != api.OK {
		t.Fatalf("Steps: %x, error %d", steps, e)
	}
	clear(steps[0][:cap(steps[0])])
	if steps[1][0] != t0 || h.Acts[0] != a {
		t.Fatalf("Steps: %x, and the history is %x", steps, h)
	}
	rest, e := trace.Rest(g, h)
	if len(rest) != 3 || e != api.OK {
		t.Fatalf("Rest: %x, error %d", rest, e)
	}
	clear(rest[:cap(rest)])
	if !slices.Equal(h.Acts, []api.Action{a, c, f0, t0}) {
		t.Fatalf("Rest: the history is %x now", h)
	}
}

// T4: histories that differ by exchanges alone leave one stand; two have a greatest common beginning, and a least continuation or two acts in conflict.
func TestT4(t *testing.T) {
	a, b, c, f0, t0, f1 := cutA(), cutB(), cutC(), fit(0), take(0), fit(1)
	stand, e := trace.Stand(of(a, f0, c, t0))
	for _, acts := range all(patternB(), []api.Action{a, f0, c, t0}) {
		if s, f := trace.Stand(of(acts...)); s != stand || e != api.OK || f != api.OK {
			t.Errorf("Stand(%x): %x, errors %d, %d, want %x", acts, s, e, f, stand)
		}
	}
	l := []api.History{of(), of(a), of(c, a), of(b, c), of(f0, a), of(f0, t0, f1), of(f1), of(f0, t0), of(c, f0, cut(at(0, 0, 1)))}
	merged, clashed := 0, 0
	for _, g := range l {
		for _, h := range l {
			x, e := trace.Common(g, h)
			begins, f := trace.Begins(x, g)
			also, d := trace.Begins(x, h)
			if !begins || !also || e != api.OK || f != api.OK || d != api.OK {
				t.Errorf("Common(%x, %x): %x, errors %d, %d, %d", g.Acts, h.Acts, x.Acts, e, f, d)
			}
			p, q, ok, e := trace.Conflict(g, h)
			y, f := trace.Merge(g, h)
			switch {
			case ok && (f != api.ErrClash || e != api.OK || apart(patternB(), p, q)), !ok && (f != api.OK || e != api.OK):
				t.Errorf("Conflict(%x, %x): %x, %x, %v, Merge: %x, errors %d, %d", g.Acts, h.Acts, p, q, ok, y.Acts, e, f)
			case ok:
				clashed++
			default:
				merged++
				begins, e := trace.Begins(g, y)
				also, f := trace.Begins(h, y)
				if !begins || !also || e != api.OK || f != api.OK {
					t.Errorf("Merge(%x, %x): %x, errors %d, %d", g.Acts, h.Acts, y.Acts, e, f)
				}
			}
		}
	}
	if min(merged, clashed) < 10 {
		t.Errorf("%d pairs have a continuation, %d have none", merged, clashed)
	}
}
