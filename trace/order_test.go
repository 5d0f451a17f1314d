package trace_test

import (
	"math/rand/v2"
	"slices"
	"testing"

	"strickle/api"
	"strickle/trace"
)

func TestD5Normal(t *testing.T) {
	changed := 0
	for _, h := range some() {
		l := all(h.Pattern, h.Acts)
		for _, acts := range l[:min(len(l), 30)] {
			x, e := trace.Normal(api.History{Pattern: h.Pattern, Acts: acts})
			if !is(x, h.Pattern, l[0]) || e != api.OK {
				t.Fatalf("Normal(%x): %x, error %d, want %x", acts, x.Acts, e, l[0])
			}
			if !slices.Equal(acts, l[0]) {
				changed++
			}
		}
	}
	if changed < 100 {
		t.Errorf("only %d histories were not normal", changed)
	}
}

// D5: actions are ordered by Kind, then Piece, then Cells, planes from 0 on, as numbers without a sign.
func TestD5InOrder(t *testing.T) {
	p := api.Pattern{Blank: full()}
	for z := range 4 {
		p.Pieces = append(p.Pieces, made(at(7, 7, z)))
	}
	// All are independent. A cut of the last cell of a plane is the greatest of those of this plane alone; one without cells in it sorts ahead of them.
	want := []api.Action{
		{Kind: api.ActCut, Cells: made(at(7, 7, 0), at(7, 7, 1), at(7, 7, 2), at(7, 7, 3))},
		fit(0), fit(1), fit(2), fit(3),
	}
	tails := []api.Action{
		cut(at(6, 7, 7)), cut(at(1, 1, 6)), cut(at(0, 2, 6)), cut(at(0, 0, 5), at(5, 5, 7)), cut(at(1, 0, 5)), cut(at(2, 0, 0), at(4, 0, 4)), cut(at(3, 0, 0)), cut(at(0, 7, 0)), cut(at(6, 7, 0)),
	}
	l := slices.Concat(tails, []api.Action{want[0], fit(3), fit(1), fit(2), fit(0), take(2), take(1)})
	slices.Reverse(l[:9])
	got, e := trace.Normal(api.History{Pattern: p, Acts: l})
	wanted := slices.Concat(tails, want, []api.Action{take(1), take(2)})
	if !is(got, p, wanted) || e != api.OK {
		t.Errorf("Normal: %x, error %d, want %x", got.Acts, e, wanted)
	}
	// 1 << 63 is not below 0.
	high, low := cut(at(7, 7, 0)), cut(at(0, 0, 0))
	if x, e := trace.Normal(solo(high, low)); !is(x, solo().Pattern, []api.Action{low, high}) || e != api.OK {
		t.Errorf("Normal: %x, error %d", x.Acts, e)
	}
}

func TestD5Equal(t *testing.T) {
	yes, no := 0, 0
	l := some()
	for i, g := range l {
		for j, h := range l {
			want := samePattern(g.Pattern, h.Pattern) && slices.Equal(least(g.Pattern, g.Acts), least(h.Pattern, h.Acts))
			if ok, e := trace.Equal(g, h); ok != want || e != api.OK {
				t.Fatalf("Equal(%x, %x): %v, error %d", g, h, ok, e)
			}
			if want && i != j {
				yes++
			}
			if !want && samePattern(g.Pattern, h.Pattern) {
				no++
			}
		}
	}
	if yes < 20 || no < 200 {
		t.Errorf("%d pairs are equal, %d are not", yes, no)
	}
	// Same acts, but not in one order where they share cells: the same stand, and not equal.
	c, f0, t0, f1, t1 := cutC(), fit(0), take(0), fit(1), take(1)
	for _, x := range [][2]api.History{
		{of(f0, t0), of()}, {of(f0, t0, f1, t1), of(f1, t1, f0, t0)}, {of(f0, t0, f0), of(f0)}, {of(c, f0, t0), of(c)}, {of(), of(f1, t1)},
		{of(cut(at(0, 0, 0), at(1, 0, 0))), of(cut(at(0, 0, 0)), cut(at(1, 0, 0)))},
	} {
		if ok, e := trace.Equal(x[0], x[1]); ok || e != api.OK {
			t.Errorf("Equal(%x, %x): %v, error %d", x[0].Acts, x[1].Acts, ok, e)
		}
	}
}

// otherPatterns are patterns that differ from the chapter's one, on which nothing of its blank's middle is different.
func otherPatterns() []api.Pattern {
	b := patternB()
	return []api.Pattern{
		{Blank: b.Blank}, {Blank: b.Blank, Pieces: b.Pieces[:1]}, {Blank: b.Blank, Pieces: []api.Solid{b.Pieces[1], b.Pieces[0]}}, {Blank: b.Blank, Pieces: []api.Solid{b.Pieces[0], b.Pieces[0]}},
		{Blank: b.Blank, Pieces: append(patternB().Pieces, made(at(7, 7, 7)))}, {Blank: api.Solid{0x0f0f0f0f, 7: 1}, Pieces: b.Pieces}, {Blank: api.Solid{0x0f0f0f4f}, Pieces: b.Pieces},
	}
}

func TestD5OtherPatterns(t *testing.T) {
	for _, p := range otherPatterns() {
		for _, acts := range [][]api.Action{nil, {cutA()}, {cutA(), cutC()}} {
			if ok, e := trace.Equal(of(acts...), api.History{Pattern: p, Acts: acts}); ok || e != api.OK {
				t.Errorf("Equal of %x and %x: %v, error %d", patternB(), p, ok, e)
			}
		}
	}
	x, y := solo(), solo()
	x.Pattern.Pieces, y.Acts = []api.Solid{}, []api.Action{}
	if ok, e := trace.Equal(x, y); !ok || e != api.OK {
		t.Errorf("Equal with nil and empty slices: %v, error %d", ok, e)
	}
}

// stepsOf returns the steps, found by exchanges alone.
func stepsOf(p api.Pattern, acts []api.Action) [][]api.Action {
	var steps [][]api.Action
	for left := acts; len(left) > 0; {
		var step []api.Action
		for _, x := range orbit(p, left) {
			if a := left[x[0]]; !slices.Contains(step, a) { // of equal ones only one can be first
				step = append(step, a)
			}
		}
		slices.SortFunc(step, func(a, b api.Action) int {
			if before(a, b) {
				return -1
			}
			return 1
		})
		steps = append(steps, step)
		rest, ok := leftOver(p, step, left)
		if !ok {
			panic("a step that cannot be first")
		}
		left = rest
	}
	return steps
}

func TestD6Steps(t *testing.T) {
	many := 0
	for _, h := range some() {
		want := stepsOf(h.Pattern, h.Acts)
		l, e := trace.Steps(h)
		if !slices.EqualFunc(l, want, slices.Equal[[]api.Action]) || e != api.OK {
			t.Fatalf("Steps(%x): %x, error %d, want %x", h, l, e, want)
		}
		if len(want) > 1 && len(want) < len(h.Acts) {
			many++
		}
	}
	if many < 20 {
		t.Errorf("only %d histories have several acts in one of several steps", many)
	}
	if l, e := trace.Steps(solo(cuts(0, 60)...)); len(l) != 1 || len(l[0]) != 60 || e != api.OK {
		t.Errorf("Steps of free acts: %x, error %d", l, e)
	}
	if l, e := trace.Steps(of(swings(0, 60)...)); len(l) != 60 || e != api.OK {
		t.Errorf("Steps of swings: %x, error %d", l, e)
	}
}

func TestD7FirstLastNeedsAndD8Orders(t *testing.T) {
	some0, needed := some(), 0
	for _, h := range some0 {
		l := orbit(h.Pattern, h.Acts)
		var first, last []int
		for i := range h.Acts {
			if slices.ContainsFunc(l, func(x []int) bool { return x[0] == i }) {
				first = append(first, i)
			}
			if slices.ContainsFunc(l, func(x []int) bool { return x[len(x)-1] == i }) {
				last = append(last, i)
			}
			var needs []int
			for j := range h.Acts {
				if j != i && !slices.ContainsFunc(l, func(x []int) bool { return slices.Index(x, j) > slices.Index(x, i) }) {
					needs = append(needs, j)
				}
			}
			if x, e := trace.Needs(h, i); !slices.Equal(x, needs) || e != api.OK {
				t.Fatalf("Needs(%x, %d): %v, error %d, want %v", h, i, x, e, needs)
			}
			needed += len(needs)
		}
		if x, e := trace.First(h); !slices.Equal(x, first) || e != api.OK {
			t.Fatalf("First(%x): %v, error %d, want %v", h, x, e, first)
		}
		if x, e := trace.Last(h); !slices.Equal(x, last) || e != api.OK {
			t.Fatalf("Last(%x): %v, error %d, want %v", h, x, e, last)
		}
		if n, e := trace.Orders(h); n != len(l) || e != api.OK {
			t.Fatalf("Orders(%x): %d, error %d, want %d", h, n, e, len(l))
		}
	}
	if needed < 50 {
		t.Errorf("only %d acts are needed", needed)
	}
}

// D7: Needs has also what is needed only by way of others, which are independent.
func TestD7NeedsByWay(t *testing.T) {
	p := api.Pattern{Blank: made(at(7, 7, 7)), Pieces: []api.Solid{made(at(0, 0, 0), at(1, 0, 0)), made(at(1, 0, 0), at(2, 0, 0)), made(at(2, 0, 0), at(3, 0, 0))}}
	h := api.History{Pattern: p, Acts: []api.Action{fit(0), cut(at(1, 0, 0)), cut(at(7, 7, 7)), fit(1), cut(at(2, 0, 0)), fit(2)}}
	if l, e := trace.Needs(h, 5); !slices.Equal(l, []int{0, 1, 3, 4}) || e != api.OK {
		t.Errorf("Needs: %v, error %d", l, e)
	}
	for _, i := range append(wrongNumbers(), 6, 7, 60) {
		if l, e := trace.Needs(h, i); len(l) != 0 || e != api.ErrArg {
			t.Errorf("Needs of %d: %v, error %d", i, l, e)
		}
	}
	for i := range 3 {
		if l, e := trace.Needs(of(), i-1); len(l) != 0 || e != api.ErrArg {
			t.Errorf("Needs of %d: %v, error %d", i-1, l, e)
		}
	}
	if l, e := trace.Needs(of(swings(0, 60)...), 59); len(l) != 59 || l[58] != 58 || e != api.OK {
		t.Errorf("Needs of the last swing: %v, error %d", l, e)
	}
}

func TestD8OrdersOfMany(t *testing.T) {
	two := api.Pattern{Blank: made(at(7, 7, 7)), Pieces: []api.Solid{made(at(0, 0, 0)), made(at(1, 0, 0))}}
	for _, x := range []struct {
		h    api.History
		want int
		e    api.Errno
	}{
		{of(), 1, api.OK},
		{solo(cuts(0, 14)...), 87178291200, api.OK},
		{solo(cuts(0, 13)...), 6227020800, api.OK},
		{solo(cuts(0, 15)...), 0, api.ErrLimit},
		{solo(cuts(0, 60)...), 0, api.ErrLimit},
		{of(swings(0, 14)...), 1, api.OK},
		{of(swings(0, 15)...), 0, api.ErrLimit},
		{api.History{Pattern: two, Acts: append(swings(0, 7), swings(1, 7)...)}, 3432, api.OK},
		{api.History{Pattern: two, Acts: append(swings(0, 4), swings(1, 10)...)}, 1001, api.OK},
		{of(append(swings(0, 13), cutA())...), 14, api.OK},
	} {
		if n, e := trace.Orders(x.h); n != x.want || e != x.e {
			t.Errorf("Orders of %d acts: %d, error %d, want %d, error %d", len(x.h.Acts), n, e, x.want, x.e)
		}
	}
}

// P4.2: whichever neighbours that are independent are exchanged, a history stays one, and its last stand is the same.
func TestP42Exchanged(t *testing.T) {
	for _, h := range some() {
		want, e := trace.Stand(h)
		if e != api.OK {
			t.Fatalf("Stand(%x): error %d", h, e)
		}
		l := all(h.Pattern, h.Acts)
		for _, acts := range l[:min(len(l), 60)] {
			x := api.History{Pattern: h.Pattern, Acts: acts}
			at, e := trace.Check(x)
			s, f := trace.Stand(x)
			ok, g := trace.Equal(x, h)
			if at != 0 || e != api.OK || s != want || f != api.OK || !ok || g != api.OK {
				t.Fatalf("%x exchanged to %x: Check %d, Stand %x, Equal %v, errors %d, %d, %d", h, acts, at, s, ok, e, f, g)
			}
		}
	}
}

// asOften reports whether two lists have the same acts, each as often.
func asOften(l, m []api.Action) bool {
	rest := slices.Clone(m)
	for _, a := range l {
		i := slices.Index(rest, a)
		if i < 0 {
			return false
		}
		rest = slices.Delete(rest, i, i+1)
	}
	return len(rest) == 0
}

// sameFirst reports whether of each two acts that are not independent two lists with the same acts have the same one first.
func sameFirst(p api.Pattern, l, m []api.Action) bool {
	for _, a := range l {
		for _, b := range l {
			if apart(p, a, b) {
				continue
			}
			both := func(x api.Action) bool { return x != a && x != b }
			if !slices.Equal(slices.DeleteFunc(slices.Clone(l), both), slices.DeleteFunc(slices.Clone(m), both)) {
				return false
			}
		}
	}
	return true
}

// P4.2: two histories are equal exactly if they have the same acts, and of each two acts that are not independent the same one first.
func TestP42SameFirst(t *testing.T) {
	r := rand.New(rand.NewPCG(27, 28))
	yes, no := 0, 0
	var l []api.History
	for _, h := range long() {
		l = append(l, h, api.History{Pattern: h.Pattern, Acts: mixed(r, h.Pattern, h.Acts)})
	}
	// The same acts in another order, which need not be equal.
	c, f0, t0, f1, t1 := cutC(), fit(0), take(0), fit(1), take(1)
	for _, acts := range [][]api.Action{{c, f0, t0, f1, t1}, {c, f1, t1, f0, t0}, {f0, t0, f1, c, t1}, {f1, t1, c, f0, t0}, {f0, t0, f0, t0, f1, t1, f1, t1}, {f0, t0, f1, t1, f0, t0, f1, t1}} {
		l = append(l, of(acts...))
	}
	for _, g := range l {
		for _, h := range l {
			if !samePattern(g.Pattern, h.Pattern) {
				continue
			}
			want := asOften(g.Acts, h.Acts) && sameFirst(g.Pattern, g.Acts, h.Acts)
			if ok, e := trace.Equal(g, h); ok != want || e != api.OK {
				t.Fatalf("Equal(%x, %x): %v, error %d", g, h, ok, e)
			}
			if want {
				yes++
			} else if asOften(g.Acts, h.Acts) {
				no++
			}
		}
	}
	if yes < 100 || no < 10 {
		t.Errorf("%d pairs are equal, %d have the same acts but are not", yes, no)
	}
}

// chain returns the greatest number of acts none of which is independent of the one before.
func chain(p api.Pattern, acts []api.Action) int {
	most := 0
	long := make([]int, len(acts))
	for i, a := range acts {
		for j, b := range acts[:i] {
			if !apart(p, a, b) {
				long[i] = max(long[i], long[j])
			}
		}
		long[i]++
		most = max(most, long[i])
	}
	return most
}

// P4.5: Steps has each act once, in each step all are independent, each act behind the first step is not independent of some act in the step before, and the steps are as many as the acts in the longest chain.
func TestP45Steps(t *testing.T) {
	for _, h := range append(some(), long()...) {
		steps, e := trace.Steps(h)
		if !sameByExchanges(h.Pattern, slices.Concat(steps...), h.Acts) || e != api.OK {
			t.Fatalf("Steps(%x): %x, error %d", h, steps, e)
		}
		for n, step := range steps {
			for i, a := range step {
				for _, b := range step[i+1:] {
					if ok, e := trace.Independent(h.Pattern, a, b); !ok || e != api.OK {
						t.Fatalf("Steps(%x): %x and %x in one step, error %d", h, a, b, e)
					}
				}
				if n > 0 && !slices.ContainsFunc(steps[n-1], func(b api.Action) bool { return !apart(h.Pattern, a, b) }) {
					t.Fatalf("Steps(%x): %x is independent of the step before", h, a)
				}
			}
		}
		if len(steps) != chain(h.Pattern, h.Acts) {
			t.Fatalf("Steps(%x): %d steps, want %d", h, len(steps), chain(h.Pattern, h.Acts))
		}
	}
}

// P4.7: Last has the acts that no other one needs, and First those that need no other one.
func TestP47Needs(t *testing.T) {
	for _, h := range append(some(), long()...) {
		var first []int
		needed := map[int]bool{}
		for i := range h.Acts {
			l, e := trace.Needs(h, i)
			if e != api.OK {
				t.Fatalf("Needs(%x, %d): error %d", h, i, e)
			}
			if len(l) == 0 {
				first = append(first, i)
			}
			for _, j := range l {
				needed[j] = true
			}
		}
		var last []int
		for i := range h.Acts {
			if !needed[i] {
				last = append(last, i)
			}
		}
		if l, e := trace.Last(h); !slices.Equal(l, last) || e != api.OK {
			t.Fatalf("Last(%x): %v, error %d, want %v", h, l, e, last)
		}
		if l, e := trace.First(h); !slices.Equal(l, first) || e != api.OK {
			t.Fatalf("First(%x): %v, error %d, want %v", h, l, e, first)
		}
	}
}

// P4.7: Orders is 1 exactly if each two neighbours of the normal form are not independent.
func TestP47Orders(t *testing.T) {
	one, more := 0, 0
	for _, h := range append(some(), drawn(40, 14)...) {
		x, e := trace.Normal(h)
		n, f := trace.Orders(h)
		if e != api.OK || f != api.OK {
			t.Fatalf("%x: errors %d, %d", h, e, f)
		}
		single := true
		for i := 1; i < len(x.Acts); i++ {
			single = single && !apart(h.Pattern, x.Acts[i-1], x.Acts[i])
		}
		if single != (n == 1) {
			t.Fatalf("Orders(%x): %d, but the normal form is %x", h, n, x.Acts)
		}
		if n == 1 {
			one++
		} else {
			more++
		}
	}
	if min(one, more) < 20 {
		t.Errorf("%d histories have one order, %d have more", one, more)
	}
}
