package draw_test

import (
	"slices"
	"testing"

	"strickle/api"
	"strickle/draw"
)

// P3.1: the chapter's table of examples, of moves.
func TestP31ExamplesOfMoves(t *testing.T) {
	a := mouldA()
	for _, c := range []struct {
		x    api.Move
		want []int
		ok   bool
	}{{api.Move{}, []int{1}, true}, {api.Move{Piece: 2}, nil, false}, {api.Move{Piece: 2, Side: 3, Far: 1}, []int{0, 1}, true}, {api.Move{Piece: 2, Side: 3, Far: 4}, nil, false}} {
		if l, ok, e := draw.InWay(a, c.x); !slices.Equal(l, c.want) || ok != c.ok || e != api.OK {
			t.Errorf("InWay(A, %v): %v, %v, error %d", c.x, l, ok, e)
		}
	}
	for _, c := range []struct{ gone, want []int }{{nil, []int{1}}, {[]int{1}, []int{0}}, {[]int{0, 1}, []int{2}}} {
		if l, e := draw.Ready(a, c.gone); !slices.Equal(l, c.want) || e != api.OK {
			t.Errorf("Ready(A, %v): %v, error %d", c.gone, l, e)
		}
	}
	for _, c := range []struct {
		gone        []int
		x           api.Move
		cell, piece int
	}{{nil, api.Move{}, 386, 1}, {[]int{1}, api.Move{Piece: 2}, 389, -1}, {nil, api.Move{Piece: 2, Side: 3, Far: 6}, 324, 0}} {
		if cell, piece, ok, e := draw.Holds(a, c.gone, c.x); cell != c.cell || piece != c.piece || !ok || e != api.OK {
			t.Errorf("Holds(A, %v, %v): %d, %d, %v, error %d", c.gone, c.x, cell, piece, ok, e)
		}
	}
	for _, c := range []struct{ s, want api.Solid }{{flat([2]int{2, 6}), flat([2]int{2, 7})}, {flat([2]int{2, 6}, [2]int{2, 7}), api.Solid{}}} {
		if x, e := draw.Undercut(c.s); x != c.want || e != api.OK {
			t.Errorf("Undercut(%x): %x, error %d", c.s, x, e)
		}
	}
	if s, e := draw.Write(api.Move{Piece: 2, Side: 3, Far: 1}); s != "2 west 1" || e != api.OK {
		t.Errorf("Write: %q, error %d", s, e)
	}
	if x, e := draw.Read("11 up"); x != (api.Move{Piece: 11}) || e != api.OK {
		t.Errorf("Read: %v, error %d", x, e)
	}
}

// P3.1: the chapter's table of examples, of orders.
func TestP31ExamplesOfOrders(t *testing.T) {
	a := mouldA()
	if l, ok, e := draw.Draw(a); !slices.Equal(l, []api.Move{{Piece: 1}, {}, {Piece: 2, Side: 3, Far: 1}}) || !ok || e != api.OK {
		t.Errorf("Draw(A): %v, %v, error %d", l, ok, e)
	}
	if l, e := draw.Rounds(a); !same(l, [][]int{{1}, {0}, {2}}) || e != api.OK {
		t.Errorf("Rounds(A): %v, error %d", l, e)
	}
	if n, e := draw.Orders(a); n != 1 || e != api.OK {
		t.Errorf("Orders(A): %d, error %d", n, e)
	}
	if l, e := draw.Last(a); !slices.Equal(l, []int{2}) || e != api.OK {
		t.Errorf("Last(A): %v, error %d", l, e)
	}
	if l, e := draw.Needs(a, 2); !slices.Equal(l, []int{0, 1}) || e != api.OK {
		t.Errorf("Needs(A, 2): %v, error %d", l, e)
	}
	if l, e := draw.Paths(a, 2); !same(l, [][]int{{0, 1, 2}}) || e != api.OK {
		t.Errorf("Paths(A, 2): %v, error %d", l, e)
	}
	if ok, e := draw.First(a, []int{0, 1}); !ok || e != api.OK {
		t.Errorf("First(A, 0 1): %v, error %d", ok, e)
	}
	if ok, e := draw.First(a, []int{0}); ok || e != api.OK {
		t.Errorf("First(A, 0): %v, error %d", ok, e)
	}
}

// P3.1: the chapter's table of examples, of locks.
func TestP31ExamplesOfLocks(t *testing.T) {
	b, e := draw.Without(mouldA(), 1)
	if !slices.Equal(b, mouldB()) || e != api.OK {
		t.Errorf("Without(A, 1): %x, error %d", b, e)
	}
	for _, c := range []struct {
		m           []api.Solid
		lock, least []int
	}{{b, []int{0, 1}, []int{0}}, {mouldR(), []int{0, 1}, []int{0, 1}}} {
		if l, ok, e := draw.Draw(c.m); len(l) != 0 || ok || e != api.OK {
			t.Errorf("Draw(%x): %v, %v, error %d", c.m, l, ok, e)
		}
		if l, e := draw.Lock(c.m); !slices.Equal(l, c.lock) || e != api.OK {
			t.Errorf("Lock(%x): %v, error %d", c.m, l, e)
		}
		if l, ok, e := draw.LeastLock(c.m); !slices.Equal(l, c.least) || !ok || e != api.OK {
			t.Errorf("LeastLock(%x): %v, %v, error %d", c.m, l, ok, e)
		}
	}
	r := mouldR()
	for p, want := range [][]int{{1}, {0}} {
		if l, ok, e := draw.InWay(r, api.Move{Piece: p}); !slices.Equal(l, want) || !ok || e != api.OK {
			t.Errorf("InWay(R, %d up): %v, %v, error %d", p, l, ok, e)
		}
	}
	one, e := draw.Joined(r, 1, 0)
	if !slices.Equal(one, []api.Solid{flat([2]int{2, 6}, [2]int{3, 6}, [2]int{2, 7}, [2]int{3, 7})}) || e != api.OK {
		t.Errorf("Joined(R, 1, 0): %x, error %d", one, e)
	}
	if l, ok, e := draw.Draw(one); !slices.Equal(l, []api.Move{{}}) || !ok || e != api.OK {
		t.Errorf("Draw of both: %v, %v, error %d", l, ok, e)
	}
}

// result is how a call ended, and whether all of its other results are zero.
type result struct {
	e    api.Errno
	zero bool
}

// callAll calls each function with a mould, with an argument that may be wrong too.
func callAll(m []api.Solid, gone []int, p int, x api.Move) map[string]result {
	l := map[string]result{}
	sand, e := draw.Sand(m)
	l["Sand"] = result{e, sand == api.Solid{}}
	in, ok, e := draw.InWay(m, x)
	l["InWay"] = result{e, len(in) == 0 && !ok}
	cell, piece, ok, e := draw.Holds(m, gone, x)
	l["Holds"] = result{e, cell == 0 && piece == 0 && !ok}
	move, ok, e := draw.Go(m, gone, p)
	l["Go"] = result{e, move == api.Move{} && !ok}
	ok, e = draw.CheckGo(m, gone, x)
	l["CheckGo"] = result{e, !ok}
	some, e := draw.Ready(m, gone)
	l["Ready"] = result{e, len(some) == 0}
	moves, ok, e := draw.Draw(m)
	l["Draw"] = result{e, len(moves) == 0 && !ok}
	ok, e = draw.CheckDraw(m, []api.Move{x})
	l["CheckDraw"] = result{e, !ok}
	sets, e := draw.Rounds(m)
	l["Rounds"] = result{e, len(sets) == 0}
	some, e = draw.Lock(m)
	l["Lock"] = result{e, len(some) == 0}
	some, ok, e = draw.LeastLock(m)
	l["LeastLock"] = result{e, len(some) == 0 && !ok}
	ok, e = draw.CheckLock(m, gone)
	l["CheckLock"] = result{e, !ok}
	ok, e = draw.First(m, gone)
	l["First"] = result{e, !ok}
	n, e := draw.Orders(m)
	l["Orders"] = result{e, n == 0}
	some, e = draw.Last(m)
	l["Last"] = result{e, len(some) == 0}
	some, e = draw.Needs(m, p)
	l["Needs"] = result{e, len(some) == 0}
	sets, e = draw.Paths(m, p)
	l["Paths"] = result{e, len(sets) == 0}
	moves, ok, e = draw.Quick(m, p)
	l["Quick"] = result{e, len(moves) == 0 && !ok}
	ok, e = draw.CheckOrder(m, nil)
	l["CheckOrder"] = result{e, !ok}
	less, e := draw.Without(m, p)
	l["Without"] = result{e, len(less) == 0}
	less, e = draw.Joined(m, 0, p)
	l["Joined"] = result{e, len(less) == 0}
	return l
}

// P3.1: functions with a mould first return the error of CheckMould, and nothing else then.
func TestP31NotMoulds(t *testing.T) {
	for _, c := range notMoulds() {
		for _, wrong := range []struct {
			gone []int
			p    int
			x    api.Move
		}{{nil, 1, api.Move{}}, {[]int{0}, 1, api.Move{Piece: 1}}, {[]int{-1}, -1, api.Move{Piece: -1}}, {[]int{1, 0}, 99, api.Move{Side: 9}}} {
			for name, r := range callAll(c.m, wrong.gone, wrong.p, wrong.x) {
				if r.e != c.e || !r.zero {
					t.Errorf("%s(%x): error %d, want %d, other results zero: %v", name, c.m, r.e, c.e, r.zero)
				}
			}
		}
	}
}

// P3.1 with rule R3: results are new memory, and arguments stay as they are.
func TestP31NewMemory(t *testing.T) {
	m, gone, moves := gaps(), []int{1, 4}, []api.Move{{Piece: 1}, {Piece: 0, Side: 1, Far: 1}}
	for range 3 {
		less, e := draw.Without(m, 6)
		one, f := draw.Joined(m, 5, 6)
		if len(less) != 6 || len(one) != 6 || less[0] != gaps()[0] || one[5] != union(m[5], m[6]) || e != api.OK || f != api.OK {
			t.Fatalf("Without: %x, Joined: %x, errors %d, %d", less, one, e, f)
		}
		clear(less)
		clear(one)
		paths, e := draw.Paths(m, 0)
		rounds, f := draw.Rounds(m)
		if len(paths) != 4 || !slices.Equal(paths[3], []int{0, 5, 6}) || !same(rounds, [][]int{{1, 2, 4, 6}, {0, 3, 5}}) || e != api.OK || f != api.OK {
			t.Fatalf("Paths: %v, Rounds: %v, errors %d, %d", paths, rounds, e, f)
		}
		// Longer lists must not run into each other either.
		_ = append(paths[0], 99)
		_ = append(rounds[0], 99)
		if !slices.Equal(paths[1], []int{0, 4}) || !slices.Equal(rounds[1], []int{0, 3, 5}) {
			t.Fatalf("Paths: %v, Rounds: %v", paths, rounds)
		}
		clear(paths[3])
		clear(rounds[0])
		order, drawn, e := draw.Draw(m)
		if !drawn || len(order) != 7 || e != api.OK {
			t.Fatalf("Draw: %v, error %d", order, e)
		}
		clear(order)
		if ok, e := draw.CheckOrder(m, moves); !ok || e != api.OK {
			t.Fatalf("CheckOrder: %v, error %d", ok, e)
		}
		ready, e := draw.Ready(m, gone)
		if !slices.Equal(ready, []int{0, 2, 6}) || e != api.OK {
			t.Fatalf("Ready: %v, error %d", ready, e)
		}
		clear(ready)
		if ok, e := draw.CheckLock(m, gone); ok || e != api.OK {
			t.Fatalf("CheckLock: %v, error %d", ok, e)
		}
	}
	if !slices.Equal(m, gaps()) || !slices.Equal(gone, []int{1, 4}) || !slices.Equal(moves, []api.Move{{Piece: 1}, {Piece: 0, Side: 1, Far: 1}}) {
		t.Errorf("the arguments are %x, %v and %v", m, gone, moves)
	}
}

// T3: a mould can be drawn, by an order, or has a lock, never both; what can go is not hindered by what went before.
func TestT3(t *testing.T) {
	for _, c := range []struct {
		m     []api.Solid
		drawn bool
	}{{nil, true}, {mouldA(), true}, {mouldB(), false}, {mouldR(), false}, {gaps(), true}, {tower(), true}, {wheel(), false}, {freeOnes(), true}} {
		order, drawn, e := draw.Draw(c.m)
		lock, locked, f := draw.LeastLock(c.m)
		if drawn != c.drawn || locked == c.drawn || e != api.OK || f != api.OK {
			t.Errorf("%x: Draw %v, %v, LeastLock %v, %v, errors %d, %d", c.m, order, drawn, lock, locked, e, f)
		}
		if ok, e := draw.CheckDraw(c.m, order); ok != c.drawn || e != api.OK {
			t.Errorf("CheckDraw(%x, %v): %v, error %d", c.m, order, ok, e)
		}
		if ok, e := draw.CheckLock(c.m, lock); ok == c.drawn || e != api.OK {
			t.Errorf("CheckLock(%x, %v): %v, error %d", c.m, lock, ok, e)
		}
	}
	// Whatever of the moves of an order is made first, those that could be made at the beginning still can.
	m := gaps()
	order, _, _ := draw.Draw(m)
	var gone []int
	for _, x := range order {
		for _, p := range []int{1, 2, 4, 6} {
			if slices.Contains(gone, p) {
				continue
			}
			if ok, e := draw.CheckGo(m, gone, api.Move{Piece: p}); !ok || e != api.OK {
				t.Errorf("%d cannot go when %v have gone, error %d", p, gone, e)
			}
		}
		gone = append(gone, x.Piece)
		slices.Sort(gone)
	}
}
