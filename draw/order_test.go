package draw_test

import (
	"math/rand/v2"
	"slices"
	"testing"

	"strickle/api"
	"strickle/draw"
)

// orderOf returns the order in which each time the least piece of a set that can go goes, by its first move, by the definition.
func orderOf(o model, set int) []api.Move {
	var l []api.Move
	gone := 0
	for {
		ready := slices.DeleteFunc(o.ready(gone), func(p int) bool { return set>>p&1 == 0 })
		if len(ready) == 0 {
			return l
		}
		x, _ := o.goes(gone, ready[0])
		l = append(l, x)
		gone |= 1 << x.Piece
	}
}

// greedy returns the order of all pieces in which each time the least one goes.
func greedy(o model) []api.Move { return orderOf(o, o.all()) }

func TestC4Draw(t *testing.T) {
	drawn, aside, locked := 0, 0, 0
	for _, m := range append(many(), freeOnes()) {
		want := greedy(modelOf(m))
		all := len(want) == len(m)
		if !all {
			want = nil
			locked++
		}
		l, ok, e := draw.Draw(m)
		if !slices.Equal(l, want) || ok != all || e != api.OK {
			t.Fatalf("Draw(%x): %v, %v, error %d, want %v", m, l, ok, e, want)
		}
		if ok {
			drawn++
		}
		if slices.ContainsFunc(l, func(x api.Move) bool { return x.Side > 0 }) {
			aside++
		}
	}
	if min(drawn, aside, locked) < 10 {
		t.Errorf("%d moulds are drawn, %d with moves sideways, %d are not", drawn, aside, locked)
	}
	if l, ok, e := draw.Draw(nil); len(l) != 0 || !ok || e != api.OK {
		t.Errorf("Draw of no pieces: %v, %v, error %d", l, ok, e)
	}
}

// someLists returns lists of moves for a mould: orders, what is near them, and others.
func someLists(m []api.Solid, r *rand.Rand) [][]api.Move {
	l := [][]api.Move{nil}
	moves := allMoves(m)
	if len(m) == 0 {
		return append(l, []api.Move{{}})
	}
	good := greedy(modelOf(m))
	l = append(l, good, append(slices.Clone(good), api.Move{}))
	if len(good) > 0 {
		l = append(l, good[:len(good)-1], good[1:], append(slices.Clone(good), good[0]))
	}
	for range 20 {
		x := slices.Clone(good)
		for range r.IntN(3) {
			if len(x) > 0 {
				i, j := r.IntN(len(x)), r.IntN(len(x))
				x[i], x[j] = x[j], x[i]
				if r.IntN(2) == 0 {
					x[i] = moves[r.IntN(len(moves))]
				}
			}
		}
		l = append(l, x)
	}
	for _, x := range append(wrongWays(), api.Move{Piece: len(m)}, api.Move{Piece: -1}) {
		l = append(l, append(slices.Clone(good), x), append([]api.Move{x}, good...))
	}
	for _, n := range wrongNumbers() {
		l = append(l, []api.Move{{Piece: n}}, append(slices.Clone(good), api.Move{Piece: n, Side: 1, Far: 1}))
	}
	return l
}

func TestC4CheckDraw(t *testing.T) {
	r := rand.New(rand.NewPCG(13, 14))
	all, some, none := 0, 0, 0
	for _, m := range many() {
		for _, l := range someLists(m, r) {
			order := isOrder(m, l)
			want := order && len(l) == len(m)
			if ok, e := draw.CheckDraw(m, l); ok != want || e != api.OK {
				t.Fatalf("CheckDraw(%x, %v): %v, error %d", m, l, ok, e)
			}
			switch {
			case want:
				all++
			case order:
				some++
			default:
				none++
			}
		}
	}
	if min(all, some, none) < 100 {
		t.Errorf("%d lists are orders of all, %d of some, %d none", all, some, none)
	}
}

func TestC8CheckOrder(t *testing.T) {
	r := rand.New(rand.NewPCG(15, 16))
	yes, no := 0, 0
	for _, m := range many() {
		for _, l := range someLists(m, r) {
			want := isOrder(m, l)
			if ok, e := draw.CheckOrder(m, l); ok != want || e != api.OK {
				t.Fatalf("CheckOrder(%x, %v): %v, error %d", m, l, ok, e)
			}
			if want {
				yes++
			} else {
				no++
			}
		}
	}
	if min(yes, no) < 200 {
		t.Errorf("%d lists are orders, %d are not", yes, no)
	}
}

// An order that is not the one of Draw is one too.
func TestC4CheckDrawOthers(t *testing.T) {
	m := freeOnes()
	l, ok, e := draw.Draw(m)
	if !ok || e != api.OK || len(l) != 12 {
		t.Fatalf("Draw: %v, %v, error %d", l, ok, e)
	}
	slices.Reverse(l)
	if ok, e := draw.CheckDraw(m, l); !ok || e != api.OK {
		t.Errorf("CheckDraw(%v): %v, error %d", l, ok, e)
	}
	if ok, e := draw.CheckDraw(nil, nil); !ok || e != api.OK {
		t.Errorf("CheckDraw of no pieces: %v, error %d", ok, e)
	}
	if ok, e := draw.CheckDraw(nil, []api.Move{{}}); ok || e != api.OK {
		t.Errorf("CheckDraw of no pieces with a move: %v, error %d", ok, e)
	}
	if ok, e := draw.CheckOrder(nil, nil); !ok || e != api.OK {
		t.Errorf("CheckOrder of no pieces: %v, error %d", ok, e)
	}
	if ok, e := draw.CheckOrder(m, slices.Repeat(l, 1000)); ok || e != api.OK {
		t.Errorf("CheckOrder of a long list: %v, error %d", ok, e)
	}
}

func TestC4Rounds(t *testing.T) {
	several := 0
	for _, m := range append(many(), freeOnes()) {
		o := modelOf(m)
		var want [][]int
		gone := 0
		for now := o.ready(0); len(now) > 0; now = o.ready(gone) {
			want = append(want, now)
			gone |= bitsOf(now)
		}
		if l, e := draw.Rounds(m); !same(l, want) || e != api.OK {
			t.Fatalf("Rounds(%x): %v, error %d, want %v", m, l, e, want)
		}
		if len(want) > 1 {
			several++
		}
	}
	if several < 20 {
		t.Errorf("only %d moulds have several rounds", several)
	}
}

func TestC6First(t *testing.T) {
	yes, no := 0, 0
	for _, m := range many() {
		for s, want := range modelOf(m).coming() {
			if ok, e := draw.First(m, listOf(s)); ok != want || e != api.OK {
				t.Fatalf("First(%x, %v): %v, error %d", m, listOf(s), ok, e)
			}
			if want {
				yes++
			} else {
				no++
			}
		}
	}
	if min(yes, no) < 300 {
		t.Errorf("%d sets come first, %d do not", yes, no)
	}
	for _, s := range wrongSets(3) {
		if ok, e := draw.First(mouldA(), s); ok || e != api.ErrArg {
			t.Errorf("First(A, %v): %v, error %d", s, ok, e)
		}
	}
	if ok, e := draw.First(nil, nil); !ok || e != api.OK {
		t.Errorf("First of no pieces: %v, error %d", ok, e)
	}
	if ok, e := draw.First(nil, []int{0}); ok || e != api.ErrArg {
		t.Errorf("First of no pieces, with one: %v, error %d", ok, e)
	}
}

func TestC6Orders(t *testing.T) {
	none, one, more := 0, 0, 0
	for _, m := range many() {
		want := 0
		for _, l := range modelOf(m).sequences() {
			if len(l) == len(m) {
				want++
			}
		}
		if n, e := draw.Orders(m); n != want || e != api.OK {
			t.Fatalf("Orders(%x): %d, error %d, want %d", m, n, e, want)
		}
		switch want {
		case 0:
			none++
		case 1:
			one++
		default:
			more++
		}
	}
	if min(none, one, more) < 10 {
		t.Errorf("%d moulds have no sequence, %d one, %d more", none, one, more)
	}
	// Twelve pieces that do not hinder each other go in 12! sequences, the most that there can be.
	if n, e := draw.Orders(freeOnes()); n != 479001600 || e != api.OK {
		t.Errorf("Orders of free ones: %d, error %d", n, e)
	}
	if n, e := draw.Orders(nil); n != 1 || e != api.OK {
		t.Errorf("Orders of no pieces: %d, error %d", n, e)
	}
}

func TestC6Last(t *testing.T) {
	several, locked := 0, 0
	for _, m := range many() {
		o := modelOf(m)
		coming := o.coming()
		var want []int
		for p := range m {
			if coming[o.all()] && coming[o.all()&^(1<<p)] {
				want = append(want, p)
			}
		}
		if l, e := draw.Last(m); !slices.Equal(l, want) || e != api.OK {
			t.Fatalf("Last(%x): %v, error %d, want %v", m, l, e, want)
		}
		if len(want) > 1 {
			several++
		}
		// Where one piece alone never goes, all others come first, and yet there is no last one.
		for p := range m {
			if !coming[o.all()] && coming[o.all()&^(1<<p)] {
				locked++
			}
		}
	}
	if several < 20 || locked < 5 {
		t.Errorf("%d moulds have several last pieces, %d have one that is alone locked", several, locked)
	}
	if l, e := draw.Last(freeOnes()); !slices.Equal(l, []int{0, 1, 2, 3, 4, 5, 6, 7, 8, 9, 10, 11}) || e != api.OK {
		t.Errorf("Last of free ones: %v, error %d", l, e)
	}
}

// P3.3: what can go can still go when more has gone, by the same move; whatever order is begun, it goes on to all pieces that some order has.
func TestP33NothingHinders(t *testing.T) {
	for _, m := range many() {
		n := 1 << min(len(m), 5)
		for gone := range n {
			for more := range n {
				if gone&^more != 0 {
					continue
				}
				less, e := draw.Ready(m, listOf(gone))
				l, f := draw.Ready(m, listOf(more))
				for _, p := range less {
					x, _, _ := draw.Go(m, listOf(gone), p)
					if more>>p&1 == 1 {
						continue
					}
					if ok, g := draw.CheckGo(m, listOf(more), x); !ok || !slices.Contains(l, p) || e != api.OK || f != api.OK || g != api.OK {
						t.Fatalf("%x: %d can go when %v have gone, not when %v", m, p, listOf(gone), listOf(more))
					}
				}
			}
		}
		lock, e := draw.Lock(m)
		for _, l := range modelOf(m).sequences() {
			slices.Sort(l)
			ready, f := draw.Ready(m, l)
			if len(ready) == 0 && len(l)+len(lock) != len(m) || e != api.OK || f != api.OK {
				t.Fatalf("%x: nothing goes behind %v, but only %v never go", m, l, lock)
			}
		}
	}
}

// P3.4: the union of two sets that come first does.
func TestP34Unions(t *testing.T) {
	for _, m := range many() {
		if len(m) > 6 {
			continue
		}
		var first []int
		for s := range 1 << len(m) {
			if ok, e := draw.First(m, listOf(s)); ok && e == api.OK {
				first = append(first, s)
			}
		}
		for _, a := range first {
			for _, b := range first {
				if !slices.Contains(first, a|b) {
					t.Fatalf("%x: %v and %v come first, but not both", m, listOf(a), listOf(b))
				}
			}
		}
	}
}

// P3.6: no order has a piece at a place that is less than the number of the round in which it goes.
func TestP36Rounds(t *testing.T) {
	later := 0
	for _, m := range many() {
		rounds, e := draw.Rounds(m)
		number := map[int]int{}
		for i, l := range rounds {
			for _, p := range l {
				number[p] = i
			}
		}
		for _, l := range modelOf(m).sequences() {
			for place, p := range l {
				n, ok := number[p]
				if place < n || !ok || e != api.OK {
					t.Fatalf("%x: %v has %d at the place %d, rounds %v", m, l, p, place, rounds)
				}
				if place > n {
					later++
				}
			}
		}
	}
	if later < 100 {
		t.Errorf("only %d pieces go later than their round", later)
	}
}

// P3.7: if a piece becomes sand, each set that comes first then comes first also before, by the same moves.
func TestP37Sand(t *testing.T) {
	all, never := 0, 0
	for _, m := range many() {
		for p := range m {
			less, e := draw.Without(m, p)
			if e != api.OK {
				t.Fatalf("Without(%x, %d): error %d", m, p, e)
			}
			o := modelOf(less)
			for s, then := range o.coming() {
				if !then {
					never++
					continue
				}
				all++
				moves := orderOf(o, s)
				set := listOf(s)
				if ok, e := draw.First(less, set); !ok || e != api.OK {
					t.Fatalf("First(%x, %v): %v, error %d", less, set, ok, e)
				}
				for i, q := range set {
					if q >= p {
						set[i] = q + 1
					}
				}
				for i, x := range moves {
					if x.Piece >= p {
						moves[i].Piece++
					}
				}
				ok, e := draw.First(m, set)
				order, f := draw.CheckOrder(m, moves)
				if !ok || !order || e != api.OK || f != api.OK {
					t.Fatalf("%x: without %d first %v, by %v; before: %v, %v", m, p, set, moves, ok, order)
				}
			}
		}
	}
	if min(all, never) < 500 {
		t.Errorf("%d sets come first, %d do not", all, never)
	}
}

// P3.8: if the whole mould is turned by a quarter about the middle of the grid, as seen from above, or mirrored in x or in y, the same sets come first.
func TestP38Turned(t *testing.T) {
	for _, m := range many() {
		for _, to := range []func(api.Cell) api.Cell{
			func(c api.Cell) api.Cell { return at(7-c.Y, c.X, c.Z) },
			func(c api.Cell) api.Cell { return at(c.Y, 7-c.X, c.Z) },
			func(c api.Cell) api.Cell { return at(7-c.X, c.Y, c.Z) },
			func(c api.Cell) api.Cell { return at(c.X, 7-c.Y, c.Z) },
		} {
			turned := mapped(m, to)
			for s := range 1 << len(m) {
				a, e := draw.First(m, listOf(s))
				b, f := draw.First(turned, listOf(s))
				if a != b || e != api.OK || f != api.OK {
					t.Fatalf("%x and %x: First(%v): %v and %v", m, turned, listOf(s), a, b)
				}
			}
		}
	}
}

// P3.9: Undercut of a solid is empty exactly if it can go straight up as the only piece.
func TestP39Straight(t *testing.T) {
	yes, no := 0, 0
	for _, m := range many() {
		for _, s := range m {
			under, e := draw.Undercut(s)
			ok, f := draw.CheckGo([]api.Solid{s}, nil, api.Move{})
			if ok != (under == api.Solid{}) || e != api.OK || f != api.OK {
				t.Fatalf("Undercut(%x): %x, but straight up: %v", s, under, ok)
			}
			if ok {
				yes++
			} else {
				no++
			}
		}
	}
	if min(yes, no) < 50 {
		t.Errorf("%d solids go straight up, %d do not", yes, no)
	}
}
