package plank_test

import (
	"math"
	"slices"
	"testing"

	"strickle/api"
	"strickle/plank"
)

// P5.1: the chapter's table of examples, of plans.
func TestP51Examples(t *testing.T) {
	for _, x := range []struct {
		s          api.Saw
		w, h, want int
	}{{sawS(), 5, 2, 11}, {sawS(), 5, 3, 14}, {sawS(), 4, 4, 16}, {sawK(), 5, 2, 8}, {sawK(), 4, 2, 7}} {
		if n, e := plank.Best(x.s, x.w, x.h); n != x.want || e != api.OK {
			t.Errorf("Best(%v, %d, %d): %d, error %d, want %d", x.s, x.w, x.h, n, e, x.want)
		}
	}
	p := []api.Node{across(3), plain(0), plain(1)}
	if n, ok, e := plank.CheckPlan(sawS(), 5, 2, p); n != 11 || !ok || e != api.OK {
		t.Errorf("CheckPlan: %d, %v, error %d", n, ok, e)
	}
	if n, e := plank.Waste(sawS(), 5, 2, p); n != 0 || e != api.OK {
		t.Errorf("Waste: %d, error %d", n, e)
	}
	if n, e := plank.Depth(sawS(), 5, 2, p); n != 1 || e != api.OK {
		t.Errorf("Depth: %d, error %d", n, e)
	}
	if l, e := plank.Used(sawS(), 5, 2, p); !slices.Equal(l, []int{1, 1, 0}) || e != api.OK {
		t.Errorf("Used: %v, error %d", l, e)
	}
	if n := prove(t, sawS(), 5, 2); n != 11 {
		t.Errorf("Plan: worth %d", n)
	}
	for _, x := range []struct {
		s     api.Saw
		w, h  int
		p     []api.Node
		worth int
		ok    bool
	}{
		{sawS(), 2, 3, []api.Node{turned(0)}, 7, true}, {sawS(), 2, 3, []api.Node{plain(0)}, 0, false}, {sawS(), 5, 2, []api.Node{across(3), plain(0)}, 0, false},
		{sawK(), 5, 2, []api.Node{across(3), plain(0), waste()}, 7, true}, {sawK(), 4, 2, []api.Node{across(3), plain(0)}, 7, true},
	} {
		if n, ok, e := plank.CheckPlan(x.s, x.w, x.h, x.p); n != x.worth || ok != x.ok || e != api.OK {
			t.Errorf("CheckPlan(%v, %d, %d, %v): %d, %v, error %d", x.s, x.w, x.h, x.p, n, ok, e)
		}
	}
	if v, e := plank.Values(sawS(), 3, 2); len(v) != 3 || !slices.Equal(slices.Concat(v...), []int{0, 0, 0, 4, 0, 7}) || e != api.OK {
		t.Errorf("Values: %v, error %d", v, e)
	}
	if s, e := plank.Write(p); s != "a3 p0 p1" || e != api.OK {
		t.Errorf("Write: %q, error %d", s, e)
	}
}

// P5.1: the chapter's table of examples, of what could be, and of wood.
func TestP51ExamplesOfWhatCouldBe(t *testing.T) {
	s := sawS()
	if n, ok, e := plank.With(s, 5, 2, 2); n != 8 || !ok || e != api.OK {
		t.Errorf("With: %d, %v, error %d", n, ok, e)
	}
	if n, ok, e := plank.Dearer(s, 5, 2, 2); n != 1 || !ok || e != api.OK {
		t.Errorf("Dearer: %d, %v, error %d", n, ok, e)
	}
	if l, e := plank.Idle(s, 5, 2); !slices.Equal(l, []int{2}) || e != api.OK {
		t.Errorf("Idle: %v, error %d", l, e)
	}
	if least, most, e := plank.Often(s, 5, 2, 0); least != 1 || most != 1 || e != api.OK {
		t.Errorf("Often: %d, %d, error %d", least, most, e)
	}
	for depth, want := range map[int]int{1: 0, 2: 16} {
		if n, e := plank.Shallow(s, 4, 4, depth); n != want || e != api.OK {
			t.Errorf("Shallow(%d): %d, error %d", depth, n, e)
		}
	}
	if n, e := plank.Enough(s, 4, 4); n != 2 || e != api.OK {
		t.Errorf("Enough: %d, error %d", n, e)
	}
	if n, p, e := plank.Fill(s, 5, 2); n != 0 || e != api.OK {
		t.Errorf("Fill: %d, %v, error %d", n, p, e)
	}
	x := made(api.Cell{X: 2, Y: 3, Z: 4}, api.Cell{X: 4, Y: 4, Z: 5})
	if l := plank.Boxes(x); !slices.Equal(l, [][2]int{{3, 2}, {3, 2}}) {
		t.Errorf("Boxes: %v", l)
	}
	if l, n, e := plank.Timber(s, x); !slices.Equal(l, []int{0, 0}) || n != 14 || e != api.OK {
		t.Errorf("Timber: %v, %d, error %d", l, n, e)
	}
}

// result is how a call ended, and whether all of its other results are zero.
type result struct {
	e    api.Errno
	zero bool
}

// call calls each function of a board, with a kind, a depth and a plan that may be wrong too.
func call(s api.Saw, w, h, number int, p []api.Node) map[string]result {
	l := map[string]result{}
	n, ok, e := plank.CheckPlan(s, w, h, p)
	l["CheckPlan"] = result{e, n == 0 && !ok}
	n, e = plank.Best(s, w, h)
	l["Best"] = result{e, n == 0}
	q, e := plank.Plan(s, w, h)
	l["Plan"] = result{e, len(q) == 0}
	v, e := plank.Values(s, w, h)
	l["Values"] = result{e, len(v) == 0}
	ok, e = plank.CheckValues(s, w, h, [][]int{{999}})
	l["CheckValues"] = result{e, !ok}
	used, e := plank.Used(s, w, h, p)
	l["Used"] = result{e, len(used) == 0}
	n, e = plank.Waste(s, w, h, p)
	l["Waste"] = result{e, n == 0}
	n, e = plank.Depth(s, w, h, p)
	l["Depth"] = result{e, n == 0}
	n, q, e = plank.Fill(s, w, h)
	l["Fill"] = result{e, n == 0 && len(q) == 0}
	n, e = plank.Shallow(s, w, h, number)
	l["Shallow"] = result{e, n == 0}
	n, e = plank.Enough(s, w, h)
	l["Enough"] = result{e, n == 0}
	n, ok, e = plank.With(s, w, h, number)
	l["With"] = result{e, n == 0 && !ok}
	n, ok, e = plank.Dearer(s, w, h, number)
	l["Dearer"] = result{e, n == 0 && !ok}
	idle, e := plank.Idle(s, w, h)
	l["Idle"] = result{e, len(idle) == 0}
	n, m, e := plank.Often(s, w, h, number)
	l["Often"] = result{e, n == 0 && m == 0}
	return l
}

// P5.1: functions first return the error of CheckSaw, then ErrArg, then ErrSaw, and nothing else then.
func TestP51Wrong(t *testing.T) {
	check := func(calls map[string]result, args any, e api.Errno) {
		t.Helper()
		for name, r := range calls {
			if r.e != e || !r.zero {
				t.Errorf("%s(%v): error %d, want %d, other results zero: %v", name, args, r.e, e, r.zero)
			}
		}
	}
	boards := [][2]int{{0, 1}, {1, 0}, {17, 1}, {1, 17}, {-1, 1}, {1, -1}, {0, 0}, {math.MinInt, 1}, {1, math.MinInt}, {math.MaxInt, 1}, {1, math.MaxInt}}
	for want, l := range wrongSaws() {
		for _, s := range l {
			for _, b := range append(boards, [2]int{1, 1}) {
				check(call(s, b[0], b[1], 0, []api.Node{waste()}), []any{s, b}, want)
				check(call(s, b[0], b[1], -1, nil), []any{s, b}, want)
			}
		}
	}
	for _, s := range []api.Saw{sawS(), {}} {
		for _, b := range boards {
			check(call(s, b[0], b[1], 0, []api.Node{waste()}), []any{s, b}, api.ErrArg)
			check(call(s, b[0], b[1], 99, nil), []any{s, b}, api.ErrArg)
		}
	}
	for _, x := range []struct {
		s    api.Saw
		kind int
	}{{sawS(), 3}, {sawS(), -1}, {sawS(), math.MinInt}, {sawS(), math.MaxInt}, {api.Saw{}, 0}} {
		l := call(x.s, 5, 2, x.kind, nil)
		check(map[string]result{"With": l["With"], "Dearer": l["Dearer"], "Often": l["Often"]}, x, api.ErrArg)
		check(map[string]result{"Used": l["Used"], "Waste": l["Waste"], "Depth": l["Depth"]}, x, api.ErrSaw)
		if r := l["CheckPlan"]; r.e != api.OK || !r.zero {
			t.Errorf("CheckPlan of nothing: %v", r)
		}
	}
}

// spare returns a slice with room behind its elements, and the whole of its memory.
func spare[T any](l []T, behind T) (short, whole []T) {
	whole = append(slices.Clip(slices.Clone(l)), behind, behind)
	return whole[:len(l)], whole
}

// P5.1 with rule R3: arguments stay as they are, also behind their ends.
func TestP51ArgumentsStay(t *testing.T) {
	s := sawK()
	kinds, memory := spare(s.Kinds, api.Kind{Id: 99})
	s.Kinds = kinds
	p, nodes := spare([]api.Node{across(3), plain(0), waste()}, turned(7))
	v, e := plank.Values(s, 5, 2)
	kept, keptNodes, keptValues := slices.Clone(memory), slices.Clone(nodes), slices.Concat(v...)
	for i := range 3 {
		call(s, 5, 2, i, p)
		plank.CheckValues(s, 5, 2, v)
		plank.Raised(s, i, 77)
		plank.WithKind(s, api.Kind{Id: 55, W: 5, H: 5, Worth: 5})
		plank.Without(s, i)
		plank.Turned(s)
		plank.Timber(s, api.Solid{1})
		plank.Write(p)
	}
	if !slices.Equal(memory, kept) || !slices.Equal(nodes, keptNodes) || !slices.Equal(slices.Concat(v...), keptValues) || e != api.OK {
		t.Errorf("the arguments are %v, %v, %v now", memory, nodes, v)
	}
}

// overwrite writes over a list and behind its end.
func overwrite[T any](l []T, with T) {
	l = l[:cap(l)]
	for i := range l {
		l[i] = with
	}
}

// P5.1 with rule R3: what is written into a result changes no argument, and no part of another result.
func TestP51NewMemory(t *testing.T) {
	s := sawK()
	for i := range 4 {
		x, e := s, api.OK
		switch i {
		case 0:
			x, e = plank.Raised(s, 0, 7)
		case 1:
			x, e = plank.WithKind(s, api.Kind{Id: 55, W: 5, H: 5, Worth: 5})
		case 2:
			x, e = plank.Without(s, 2)
		case 3:
			x, e = plank.Turned(s)
		}
		overwrite(x.Kinds, api.Kind{Id: -1})
		if !same(s, sawK()) || e != api.OK {
			t.Fatalf("the saw is %v now, error %d", s, e)
		}
	}
	v, _ := plank.Values(s, 3, 3)
	want := [][]int{{0, 0, 0}, {0, 4, 7}, {0, 7, 7}}
	for i := range v {
		if !slices.Equal(v[i], want[i]) {
			t.Errorf("Values: %v at %d", v, i)
		}
		overwrite(v[i], -1)
	}
	p, _ := plank.Plan(s, 5, 2)
	overwrite(p, across(9))
	if n := prove(t, s, 5, 2); n != 8 {
		t.Errorf("Plan again: worth %d", n)
	}
}
