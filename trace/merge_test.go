package trace_test

import (
	"fmt"
	"math/rand/v2"
	"slices"
	"testing"

	"strickle/api"
	"strickle/trace"
)

// world is a pattern with few actions, and all histories of it with up to so many acts, each as the least list that is equal to it.
type world struct {
	pattern api.Pattern
	lists   [][]api.Action
	// begins has, for each history, the numbers of those that begin it.
	begins [][]bool
}

// worldOf finds all histories of a pattern with some actions that have up to most acts.
func worldOf(p api.Pattern, actions []api.Action, most int) world {
	w := world{pattern: p, lists: [][]api.Action{nil}}
	number := map[string]int{"[]": 0}
	for i := 0; i < len(w.lists); i++ {
		for _, a := range actions {
			acts := append(slices.Clip(w.lists[i]), a)
			if _, e, _ := done(p, acts); e != api.OK || len(acts) > most {
				continue
			}
			l := least(p, acts)
			if _, ok := number[fmt.Sprint(l)]; !ok {
				number[fmt.Sprint(l)] = len(w.lists)
				w.lists = append(w.lists, l)
			}
		}
	}
	for _, acts := range w.lists {
		begins := make([]bool, len(w.lists))
		for _, x := range all(p, acts) {
			for n := range len(x) + 1 {
				begins[number[fmt.Sprint(least(p, x[:n]))]] = true
			}
		}
		w.begins = append(w.begins, begins)
	}
	return w
}

// worlds are small worlds: cuts that overlap, pieces that overlap, and pieces apart from each other.
func worlds() []world {
	a, b, c, d := at(0, 0, 0), at(1, 0, 0), at(0, 0, 1), at(1, 0, 1)
	row := made(a, b)
	return []world{
		worldOf(api.Pattern{Blank: made(a, b, at(2, 0, 0), at(3, 0, 0))}, []api.Action{cut(a), cut(b), cut(a, b), cut(b, at(2, 0, 0)), cut(at(2, 0, 0)), cut(at(3, 0, 0))}, 6),
		worldOf(api.Pattern{Blank: row, Pieces: []api.Solid{made(c), made(c, d)}}, []api.Action{cut(b), cut(c), fit(0), take(0), fit(1), take(1)}, 6),
		worldOf(api.Pattern{Blank: row, Pieces: []api.Solid{made(c), made(d)}}, []api.Action{cut(a), fit(0), take(0), fit(1), take(1)}, 6),
		worldOf(api.Pattern{Blank: row, Pieces: []api.Solid{made(c), made(a, d)}}, []api.Action{cut(a), cut(a, c), cut(d), fit(0), take(0), fit(1), take(1)}, 5),
	}
}

// history returns a history of the world.
func (w world) history(i int) api.History { return api.History{Pattern: w.pattern, Acts: w.lists[i]} }

// short returns how many histories have at most n acts: they come first.
func (w world) short(n int) int {
	i := slices.IndexFunc(w.lists, func(l []api.Action) bool { return len(l) > n })
	if i < 0 {
		return len(w.lists)
	}
	return i
}

// common returns the number of the history that begins two, and that each history begins that begins both.
func (w world) common(i, j int) int {
	for k := range w.lists {
		if !w.begins[i][k] || !w.begins[j][k] {
			continue
		}
		greatest := true
		for m := range w.lists {
			greatest = greatest && (!w.begins[i][m] || !w.begins[j][m] || w.begins[k][m])
		}
		if greatest {
			return k
		}
	}
	panic("no greatest common beginning")
}

// merge returns the number of the history that two begin, and that begins each history that both begin, and whether there is a history that both begin.
func (w world) merge(i, j int) (int, bool) {
	var l []int
	for k := range w.lists {
		if w.begins[k][i] && w.begins[k][j] {
			l = append(l, k)
		}
	}
	for _, k := range l {
		if !slices.ContainsFunc(l, func(m int) bool { return !w.begins[m][k] }) {
			return k, true
		}
	}
	if len(l) > 0 {
		panic("no least continuation")
	}
	return 0, false
}

// rest returns the least list with which a history that begins another one goes on to it.
func (w world) rest(i, j int) []api.Action {
	n := len(w.lists[i])
	var rests [][]api.Action
	for _, x := range all(w.pattern, w.lists[j]) {
		if slices.Equal(least(w.pattern, x[:n]), w.lists[i]) {
			rests = append(rests, x[n:])
		}
	}
	return slices.MinFunc(rests, func(l, m []api.Action) int {
		if listBefore(l, m) {
			return -1
		}
		return 1
	})
}

func TestD9BeginsAndRest(t *testing.T) {
	yes, no := 0, 0
	for _, w := range worlds() {
		for i := range w.short(4) {
			for j := range w.short(4) {
				g, h := w.history(i), w.history(j)
				want := w.begins[j][i]
				if ok, e := trace.Begins(g, h); ok != want || e != api.OK {
					t.Fatalf("Begins(%x, %x): %v, error %d", g, h, ok, e)
				}
				l, e := trace.Rest(g, h)
				if !want {
					no++
					if len(l) != 0 || e != api.ErrBegin {
						t.Fatalf("Rest(%x, %x): %x, error %d", g, h, l, e)
					}
					continue
				}
				yes++
				if !slices.Equal(l, w.rest(i, j)) || e != api.OK {
					t.Fatalf("Rest(%x, %x): %x, error %d, want %x", g, h, l, e, w.rest(i, j))
				}
			}
		}
	}
	if min(yes, no) < 500 {
		t.Errorf("%d histories begin others, %d do not", yes, no)
	}
}

// conflict returns the first act of one list that is not independent of some act of another one, and the first such act.
func conflict(p api.Pattern, l, m []api.Action) (a, b api.Action, ok bool) {
	for _, a := range l {
		if i := slices.IndexFunc(m, func(b api.Action) bool { return !apart(p, a, b) }); i >= 0 {
			return a, m[i], true
		}
	}
	return api.Action{}, api.Action{}, false
}

// D10, and P4.3 on all histories of small worlds: there is a continuation exactly if the rests have no conflict.
func TestD10CommonMergeConflict(t *testing.T) {
	merged, clashed := 0, 0
	for _, w := range worlds() {
		longest := len(w.lists[len(w.lists)-1])
		for i := range w.short(3) {
			for j := range w.short(min(3, longest-len(w.lists[i]))) {
				g, h := w.history(i), w.history(j)
				k := w.common(i, j)
				if x, e := trace.Common(g, h); !is(x, w.pattern, w.lists[k]) || e != api.OK {
					t.Fatalf("Common(%x, %x): %x, error %d, want %x", g, h, x, e, w.lists[k])
				}
				a, b, found := conflict(w.pattern, w.rest(k, i), w.rest(k, j))
				if x, y, ok, e := trace.Conflict(g, h); x != a || y != b || ok != found || e != api.OK {
					t.Fatalf("Conflict(%x, %x): %x, %x, %v, error %d, want %x, %x, %v", g, h, x, y, ok, e, a, b, found)
				}
				// The least continuation has at most the acts of both, so that it is one of the world's.
				m, ok := w.merge(i, j)
				if ok == found {
					t.Fatalf("%x, %x: a conflict: %v, a continuation: %v", g, h, found, ok)
				}
				x, e := trace.Merge(g, h)
				if ok && (!is(x, w.pattern, w.lists[m]) || e != api.OK) || !ok && (!zero(x) || e != api.ErrClash) {
					t.Fatalf("Merge(%x, %x): %x, error %d, want %x, %v", g, h, x, e, w.lists[m], ok)
				}
				if ok {
					merged++
				} else {
					clashed++
				}
			}
		}
	}
	if min(merged, clashed) < 300 {
		t.Errorf("%d pairs have a continuation, %d have none", merged, clashed)
	}
}

func TestD9AndD10OtherPatterns(t *testing.T) {
	for _, p := range otherPatterns() {
		for _, acts := range [][]api.Action{nil, {cutA()}, {cutA(), cutC()}} {
			for _, x := range [][2]api.History{{of(acts...), {Pattern: p, Acts: acts}}, {{Pattern: p}, of(acts...)}, {of(cutA()), {Pattern: p, Acts: []api.Action{cutB()}}}} {
				if ok, e := trace.Begins(x[0], x[1]); ok || e != api.OK {
					t.Errorf("Begins: %v, error %d", ok, e)
				}
				if l, e := trace.Rest(x[0], x[1]); len(l) != 0 || e != api.ErrOther {
					t.Errorf("Rest: %x, error %d", l, e)
				}
				if h, e := trace.Common(x[0], x[1]); !zero(h) || e != api.ErrOther {
					t.Errorf("Common: %x, error %d", h, e)
				}
				if h, e := trace.Merge(x[0], x[1]); !zero(h) || e != api.ErrOther {
					t.Errorf("Merge: %x, error %d", h, e)
				}
				if a, b, ok, e := trace.Conflict(x[0], x[1]); a != (api.Action{}) || b != (api.Action{}) || ok || e != api.ErrOther {
					t.Errorf("Conflict: %x, %x, %v, error %d", a, b, ok, e)
				}
			}
		}
	}
}

// D10: a continuation with 60 acts is one, one with more is ErrLimit, and ErrClash comes first.
func TestD10Limit(t *testing.T) {
	for _, x := range []struct {
		g, h []api.Action
		n    int
		e    api.Errno
	}{
		{cuts(0, 30), cuts(30, 30), 60, api.OK},
		{cuts(0, 30), cuts(30, 31), 0, api.ErrLimit},
		{cuts(0, 60), cuts(60, 60), 0, api.ErrLimit},
		{cuts(0, 60), cuts(0, 60), 60, api.OK},
		{cuts(0, 60), nil, 60, api.OK},
		{cuts(0, 60), cuts(60, 1), 0, api.ErrLimit},
		{cuts(0, 60), append(cuts(60, 30), cut(at(0, 0, 0), at(0, 0, 7))), 0, api.ErrClash},
		{cuts(0, 31), append(cuts(1, 50), cut(at(0, 0, 0), at(0, 0, 7))), 0, api.ErrClash},
	} {
		for range 2 {
			h, e := trace.Merge(solo(x.g...), solo(x.h...))
			if len(h.Acts) != x.n || e != x.e || e != api.OK && !zero(h) {
				t.Errorf("Merge of %d and %d acts: %d acts, error %d, want %d, error %d", len(x.g), len(x.h), len(h.Acts), e, x.n, x.e)
			}
			x.g, x.h = x.h, x.g
		}
	}
	// Histories with many acts in common, one of them in reverse.
	back := cuts(0, 60)
	slices.Reverse(back)
	if h, e := trace.Common(solo(cuts(0, 60)...), solo(back...)); len(h.Acts) != 60 || e != api.OK {
		t.Errorf("Common: %x, error %d", h.Acts, e)
	}
	if a, b, ok, e := trace.Conflict(solo(cuts(0, 60)...), solo(cuts(60, 60)...)); a != (api.Action{}) || b != (api.Action{}) || ok || e != api.OK {
		t.Errorf("Conflict: %x, %x, %v, error %d", a, b, ok, e)
	}
}

// D10: the acts in conflict are the first ones of the least lists, not of the lists that are told.
func TestD10FirstConflict(t *testing.T) {
	a, b, c, d := at(0, 0, 0), at(1, 0, 0), at(2, 0, 0), at(3, 0, 0)
	for _, x := range []struct {
		g, h       []api.Action
		inG, inOfH api.Action
	}{
		{[]api.Action{cut(d), cut(b), cut(a)}, []api.Action{cut(d, at(7, 7, 7)), cut(b, c)}, cut(b), cut(b, c)},
		{[]api.Action{cut(c, d), cut(a, b)}, []api.Action{cut(b), cut(d), cut(a)}, cut(a, b), cut(a)},
		{[]api.Action{cut(a), cut(d), cut(c)}, []api.Action{cut(b), cut(c, d), cut(a)}, cut(c), cut(c, d)},
		// The first act of h that is in conflict is not in conflict with the first one of g.
		{[]api.Action{cut(c), cut(d)}, []api.Action{cut(a, d), cut(b, c)}, cut(c), cut(b, c)},
	} {
		if p, q, ok, e := trace.Conflict(solo(x.g...), solo(x.h...)); p != x.inG || q != x.inOfH || !ok || e != api.OK {
			t.Errorf("Conflict(%x, %x): %x, %x, %v, error %d", x.g, x.h, p, q, ok, e)
		}
	}
}

// grown returns pairs of histories that have grown out of one, each written in some order.
func grown() [][2]api.History {
	r := rand.New(rand.NewPCG(29, 30))
	var l [][2]api.History
	for _, h := range append(drawn(10, 20), long()...) {
		n := len(h.Acts)
		for _, from := range []int{n, n / 2, 0} {
			for _, more := range []int{0, 1, 5, 20} {
				g := goneOn(r, h.Pattern, h.Acts[:from], min(more, 60-from))
				l = append(l, [2]api.History{{Pattern: h.Pattern, Acts: mixed(r, h.Pattern, g)}, {Pattern: h.Pattern, Acts: mixed(r, h.Pattern, h.Acts)}})
			}
		}
	}
	return l
}

// P4.3: Common begins both, and no act can be first in the rests of both; Merge is begun by both, and there is one exactly if the rests are independent.
func TestP43Continuations(t *testing.T) {
	merged, clashed := 0, 0
	for _, x := range grown() {
		g, h := x[0], x[1]
		p := g.Pattern
		c, e := trace.Common(g, h)
		if e != api.OK {
			t.Fatalf("Common(%x, %x): error %d", g, h, e)
		}
		l, ok := leftOver(p, c.Acts, g.Acts)
		m, also := leftOver(p, c.Acts, h.Acts)
		if !ok || !also {
			t.Fatalf("Common(%x, %x): %x begins both: %v, %v", g, h, c.Acts, ok, also)
		}
		// If a longer history began both, some act would be the first one of both rests.
		for _, a := range l {
			_, first := leftOver(p, []api.Action{a}, l)
			if _, ok := leftOver(p, []api.Action{a}, m); ok && first {
				t.Fatalf("Common(%x, %x): %x, but %x goes on with it", g, h, c.Acts, a)
			}
		}
		_, _, found := conflict(p, l, m)
		w, e := trace.Merge(g, h)
		switch {
		case found:
			clashed++
			if !zero(w) || e != api.ErrClash {
				t.Fatalf("Merge(%x, %x): %x, error %d", g, h, w, e)
			}
		case len(g.Acts)+len(m) > 60:
			if !zero(w) || e != api.ErrLimit {
				t.Fatalf("Merge(%x, %x): %x, error %d", g, h, w, e)
			}
		default:
			merged++
			if !sameByExchanges(p, slices.Concat(g.Acts, m), w.Acts) || !sameByExchanges(p, slices.Concat(h.Acts, l), w.Acts) || e != api.OK {
				t.Fatalf("Merge(%x, %x): %x, error %d", g, h, w, e)
			}
			begins, e := trace.Begins(h, w)
			also, f := trace.Begins(g, w)
			if !begins || !also || e != api.OK || f != api.OK {
				t.Fatalf("Merge(%x, %x): %x, which they do not begin, errors %d, %d", g, h, w, e, f)
			}
		}
	}
	if min(merged, clashed) < 100 {
		t.Errorf("%d pairs have a continuation, %d have none", merged, clashed)
	}
}

// P4.3: each history that two begin is begun by Merge, also one that goes on far behind it.
func TestP43Least(t *testing.T) {
	r := rand.New(rand.NewPCG(31, 32))
	longer := 0
	for _, w := range long() {
		// Two histories that begin one have a continuation.
		n := len(w.Acts)
		var starts []api.History
		for range 6 {
			x := mixed(r, w.Pattern, w.Acts)
			starts = append(starts, api.History{Pattern: w.Pattern, Acts: x[:r.IntN(n+1)]})
		}
		for _, g := range starts {
			for _, h := range starts {
				m, e := trace.Merge(g, h)
				ok, f := trace.Begins(m, w)
				if !ok || e != api.OK || f != api.OK {
					t.Fatalf("Merge(%x, %x): %x does not begin %x, errors %d, %d", g, h, m, w, e, f)
				}
				rest, e := trace.Rest(m, w)
				if !sameByExchanges(w.Pattern, slices.Concat(m.Acts, rest), w.Acts) || e != api.OK {
					t.Fatalf("Rest(%x, %x): %x, error %d", m, w, rest, e)
				}
				if len(m.Acts) > max(len(g.Acts), len(h.Acts)) {
					longer++
				}
			}
		}
	}
	if longer < 100 {
		t.Errorf("only %d continuations are longer than both", longer)
	}
}

// P4.4: Merge does not depend on the order of its arguments, nor, of three, on which are merged first; a history merged with one that begins it is the same.
func TestP44Merging(t *testing.T) {
	merge := func(g, h api.History, e api.Errno) (api.History, api.Errno) {
		if e != api.OK {
			return api.History{}, e
		}
		return trace.Merge(g, h)
	}
	merged, clashed := 0, 0
	for _, w := range worlds() {
		n := w.short(2)
		for i := range n {
			for j := range n {
				g, h := w.history(i), w.history(j)
				x, e := trace.Merge(g, h)
				y, f := trace.Merge(h, g)
				if !is(x, y.Pattern, y.Acts) || e != f {
					t.Fatalf("Merge(%x, %x): %x, error %d, and the other way round %x, error %d", g, h, x, e, y, f)
				}
				if w.begins[j][i] && (!is(x, w.pattern, w.lists[j]) || e != api.OK) {
					t.Fatalf("Merge(%x, %x): %x, error %d, but the first one begins the second one", g, h, x, e)
				}
				for k := range n {
					third := w.history(k)
					left, e := merge(x, third, e)
					back, f := trace.Merge(h, third)
					right, f := merge(g, back, f)
					if !is(left, right.Pattern, right.Acts) || e != f {
						t.Fatalf("Merge of %x, %x, %x: %x, error %d, and %x, error %d", g, h, third, left, e, right, f)
					}
					if e == api.OK {
						merged++
					} else {
						clashed++
					}
				}
			}
		}
	}
	if min(merged, clashed) < 500 {
		t.Errorf("%d times a continuation of three, %d times none", merged, clashed)
	}
}

// P4.4: each cell behind Merge is as the rest leaves it that has it.
func TestP44Wood(t *testing.T) {
	merged := 0
	for _, x := range grown() {
		w, e := trace.Merge(x[0], x[1])
		if e != api.OK {
			continue
		}
		merged++
		c, e := trace.Common(x[0], x[1])
		if e != api.OK {
			t.Fatalf("Common(%x, %x): error %d", x[0], x[1], e)
		}
		stand, e := trace.Stand(c)
		if e != api.OK {
			t.Fatalf("Stand(%x): error %d", c, e)
		}
		want := stand.Wood
		for _, h := range x {
			rest, e := trace.Rest(c, h)
			end, f := trace.Stand(h)
			if e != api.OK || f != api.OK {
				t.Fatalf("Rest(%x, %x): errors %d, %d", c, h, e, f)
			}
			for _, a := range rest {
				for _, cell := range touched(h.Pattern, a) {
					bit := uint64(1) << (8*cell.Y + cell.X)
					want[cell.Z] = want[cell.Z]&^bit | end.Wood[cell.Z]&bit
				}
			}
		}
		if s, e := trace.Stand(w); s.Wood != want || e != api.OK {
			t.Fatalf("Stand(Merge(%x, %x)): %x, error %d, want %x", x[0], x[1], s, e, want)
		}
	}
	if merged < 100 {
		t.Errorf("only %d pairs have a continuation", merged)
	}
}
