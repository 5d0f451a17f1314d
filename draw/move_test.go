package draw_test

import (
	"slices"
	"testing"

	"strickle/api"
	"strickle/draw"
)

func TestC1CheckMould(t *testing.T) {
	for _, m := range append(many(), freeOnes()) {
		if e := draw.CheckMould(m); e != api.OK {
			t.Errorf("CheckMould(%x): error %d", m, e)
		}
	}
	if e := draw.CheckMould([]api.Solid{}); e != api.OK {
		t.Errorf("CheckMould of no pieces: error %d", e)
	}
	for _, x := range notMoulds() {
		if e := draw.CheckMould(x.m); e != x.e {
			t.Errorf("CheckMould(%x): error %d, want %d", x.m, e, x.e)
		}
	}
}

func TestC1Sand(t *testing.T) {
	for _, m := range append(many(), freeOnes()) {
		if s, e := draw.Sand(m); s != minus(full(), union(m...)) || e != api.OK {
			t.Errorf("Sand(%x): %x, error %d", m, s, e)
		}
	}
	if s, e := draw.Sand(nil); s != full() || e != api.OK {
		t.Errorf("Sand of no pieces: %x, error %d", s, e)
	}
	if s, e := draw.Sand([]api.Solid{full()}); s != (api.Solid{}) || e != api.OK {
		t.Errorf("Sand of a full grid: %x, error %d", s, e)
	}
}

func TestC2InWay(t *testing.T) {
	sand, alone, several := 0, 0, 0
	for _, m := range many() {
		for _, x := range allMoves(m) {
			want, ok := hinder(m, x)
			l, is, e := draw.InWay(m, x)
			if !slices.Equal(l, listOf(want)) || is != ok || e != api.OK {
				t.Fatalf("InWay(%x, %v): %v, %v, error %d, want %v, %v", m, x, l, is, e, listOf(want), ok)
			}
			switch {
			case !ok:
				sand++
			case want == 0:
				alone++
			case want&(want-1) != 0:
				several++
			}
		}
	}
	if sand < 1000 || alone < 100 || several < 100 {
		t.Errorf("%d moves meet sand, %d nothing, %d several pieces", sand, alone, several)
	}
}

// A piece is never in its own way, above the grid there is nothing, and beyond its sides there is sand.
func TestC2InWayAtBorders(t *testing.T) {
	arch := []api.Solid{made(at(0, 0, 7), at(1, 0, 7), at(0, 0, 6))}
	for _, c := range []struct {
		x  api.Move
		ok bool
	}{{api.Move{}, true}, {api.Move{Side: 1, Far: 1}, false}, {api.Move{Side: 3, Far: 1}, false}, {api.Move{Side: 4, Far: 1}, false}, {api.Move{Side: 2, Far: 1}, false}} {
		if l, ok, e := draw.InWay(arch, c.x); len(l) != 0 || ok != c.ok || e != api.OK {
			t.Errorf("InWay(%v): %v, %v, error %d", c.x, l, ok, e)
		}
	}
	// The corners of the plane 7: of the moves to the two sides that there are, all go; of those beyond the sides none does.
	for side, to := range map[int]api.Cell{1: at(1, 0, 0), 2: at(0, 1, 0), 3: at(-1, 0, 0), 4: at(0, -1, 0)} {
		for _, c := range []api.Cell{at(0, 0, 7), at(7, 0, 7), at(0, 7, 7), at(7, 7, 7)} {
			m := []api.Solid{made(c), minus(full(), made(c))}
			for far := 1; far <= 7; far++ {
				end := at(c.X+far*to.X, c.Y+far*to.Y, c.Z)
				l, ok, e := draw.InWay(m, api.Move{Side: side, Far: far})
				if ok != isCell(end) || slices.Equal(l, []int{1}) != ok || e != api.OK {
					t.Errorf("InWay of a piece at %v to the side %d by %d: %v, %v, error %d", c, side, far, l, ok, e)
				}
			}
		}
	}
}

// firstHeld returns what holds a move first, by the definition.
func firstHeld(m []api.Solid, gone int, x api.Move) (cell, piece int, ok bool) {
	for _, now := range walk(m, x) {
		cell = 512
		for _, c := range now {
			p := whose(m, c)
			if !isCell(c) && p == -1 {
				return -1, -1, true
			}
			if p < 99 && p != x.Piece && (p < 0 || gone>>p&1 == 0) && number(c) < cell {
				cell, piece = number(c), p
			}
		}
		if cell < 512 {
			return cell, piece, true
		}
	}
	return 0, 0, false
}

func TestC2Holds(t *testing.T) {
	sand, beyond, others, none := 0, 0, 0, 0
	for _, m := range many() {
		for gone := range 1 << min(len(m), 5) {
			for _, x := range allMoves(m) {
				if gone>>x.Piece&1 == 1 {
					continue
				}
				cell, piece, ok := firstHeld(m, gone, x)
				c, p, is, e := draw.Holds(m, listOf(gone), x)
				if c != cell || p != piece || is != ok || e != api.OK {
					t.Fatalf("Holds(%x, %v, %v): %d, %d, %v, error %d, want %d, %d, %v", m, listOf(gone), x, c, p, is, e, cell, piece, ok)
				}
				switch {
				case !ok:
					none++
				case cell == -1:
					beyond++
				case piece == -1:
					sand++
				default:
					others++
				}
			}
		}
	}
	if min(sand, beyond, others, none) < 500 {
		t.Errorf("held by sand: %d times, at a side: %d, by others: %d, not held: %d", sand, beyond, others, none)
	}
}

// If the piece would leave the grid at a side, this comes ahead of what holds it at that step, but not ahead of what holds it before.
func TestC2HoldsAtSides(t *testing.T) {
	row := []api.Solid{made(at(0, 3, 5), at(3, 3, 5)), made(at(2, 3, 5))}
	for _, c := range []struct {
		x           api.Move
		cell, piece int
	}{
		{api.Move{Side: 3, Far: 1}, -1, -1}, {api.Move{Side: 3, Far: 7}, -1, -1}, {api.Move{Side: 1, Far: 7}, number(at(1, 3, 5)), -1},
		{api.Move{Piece: 1, Side: 1, Far: 2}, number(at(3, 3, 5)), 0}, {api.Move{Piece: 1, Side: 3, Far: 3}, number(at(1, 3, 5)), -1}, {api.Move{}, number(at(0, 3, 6)), -1},
	} {
		if cell, piece, ok, e := draw.Holds(row, nil, c.x); cell != c.cell || piece != c.piece || !ok || e != api.OK {
			t.Errorf("Holds(%v): %d, %d, %v, error %d", c.x, cell, piece, ok, e)
		}
	}
	// Two cells are held at once: the lesser one comes first, whosever it is.
	two := []api.Solid{made(at(2, 0, 5), at(4, 0, 5)), made(at(4, 0, 6)), made(at(2, 0, 6))}
	for _, c := range []struct {
		gone        []int
		cell, piece int
	}{{nil, 386, 2}, {[]int{1}, 386, 2}, {[]int{2}, 388, 1}, {[]int{1, 2}, 450, -1}} {
		if cell, piece, ok, e := draw.Holds(two, c.gone, api.Move{}); cell != c.cell || piece != c.piece || !ok || e != api.OK {
			t.Errorf("Holds without %v: %d, %d, %v, error %d", c.gone, cell, piece, ok, e)
		}
	}
}

func TestC3Go(t *testing.T) {
	up, aside, never := 0, 0, 0
	for _, m := range many() {
		o := modelOf(m)
		for gone := range o.all() + 1 {
			for p := range m {
				if gone>>p&1 == 1 {
					continue
				}
				want, ok := o.goes(gone, p)
				x, is, e := draw.Go(m, listOf(gone), p)
				if x != want || is != ok || e != api.OK {
					t.Fatalf("Go(%x, %v, %d): %v, %v, error %d, want %v, %v", m, listOf(gone), p, x, is, e, want, ok)
				}
				switch {
				case !ok:
					never++
				case x.Side == 0:
					up++
				default:
					aside++
				}
			}
		}
	}
	if min(up, aside, never) < 200 {
		t.Errorf("%d go up, %d sideways, %d never", up, aside, never)
	}
}

func TestC3CheckGo(t *testing.T) {
	for _, m := range many() {
		for _, x := range allMoves(m) {
			h, free := hinder(m, x)
			for gone := range 1 << min(len(m), 5) {
				if gone>>x.Piece&1 == 1 {
					continue
				}
				want := free && h&^gone == 0
				ok, e := draw.CheckGo(m, listOf(gone), x)
				if ok != want || e != api.OK {
					t.Fatalf("CheckGo(%x, %v, %v): %v, error %d", m, listOf(gone), x, ok, e)
				}
				if _, _, held, e := draw.Holds(m, listOf(gone), x); held == want || e != api.OK {
					t.Fatalf("Holds(%x, %v, %v): %v, error %d, but CheckGo: %v", m, listOf(gone), x, held, e, want)
				}
			}
		}
	}
}

func TestC3Ready(t *testing.T) {
	for _, m := range many() {
		o := modelOf(m)
		for gone := range o.all() + 1 {
			if l, e := draw.Ready(m, listOf(gone)); !slices.Equal(l, o.ready(gone)) || e != api.OK {
				t.Fatalf("Ready(%x, %v): %v, error %d, want %v", m, listOf(gone), l, e, o.ready(gone))
			}
		}
	}
	if l, e := draw.Ready(freeOnes(), []int{3, 11}); !slices.Equal(l, []int{0, 1, 2, 4, 5, 6, 7, 8, 9, 10}) || e != api.OK {
		t.Errorf("Ready of free ones: %v, error %d", l, e)
	}
}

// Lists that are no sets, pieces that there are not or that have gone, and moves that are none.
func TestC3Wrong(t *testing.T) {
	m := mouldA()
	holds := func(gone []int, x api.Move) bool {
		cell, piece, ok, e := draw.Holds(m, gone, x)
		return cell == 0 && piece == 0 && !ok && e == api.ErrArg
	}
	goes := func(gone []int, p int) bool {
		x, ok, e := draw.Go(m, gone, p)
		return x == api.Move{} && !ok && e == api.ErrArg
	}
	check := func(gone []int, x api.Move) bool {
		ok, e := draw.CheckGo(m, gone, x)
		return !ok && e == api.ErrArg
	}
	for _, gone := range wrongSets(len(m)) {
		l, e := draw.Ready(m, gone)
		if len(l) != 0 || e != api.ErrArg || !holds(gone, api.Move{Piece: 2}) || !goes(gone, 2) || !check(gone, api.Move{Piece: 2}) {
			t.Errorf("without %v: Ready %v, error %d", gone, l, e)
		}
	}
	for _, p := range append(wrongNumbers(), 3) {
		x := api.Move{Piece: p}
		l, ok, e := draw.InWay(m, x)
		if len(l) != 0 || ok || e != api.ErrArg || !holds(nil, x) || !goes(nil, p) || !check(nil, x) {
			t.Errorf("of the piece %d: InWay %v, %v, error %d", p, l, ok, e)
		}
	}
	for _, x := range wrongWays() {
		l, ok, e := draw.InWay(m, x)
		if len(l) != 0 || ok || e != api.ErrArg || !holds(nil, x) || !check(nil, x) {
			t.Errorf("the move %v: InWay %v, %v, error %d", x, l, ok, e)
		}
	}
	for _, gone := range [][]int{{1}, {0, 1}, {1, 2}, {0, 1, 2}} {
		if !holds(gone, api.Move{Piece: 1}) || !goes(gone, 1) || !check(gone, api.Move{Piece: 1}) {
			t.Errorf("the piece 1 can go when %v have gone", gone)
		}
	}
}

func TestC9Undercut(t *testing.T) {
	for _, m := range many() {
		for p, s := range m {
			var want []api.Cell
			for _, now := range walk(m, api.Move{Piece: p}) {
				for _, c := range now {
					if isCell(c) && s[c.Z]>>(8*c.Y+c.X)&1 == 0 {
						want = append(want, c)
					}
				}
			}
			if x, e := draw.Undercut(s); x != made(want...) || e != api.OK {
				t.Fatalf("Undercut(%x): %x, error %d, want %x", s, x, e, made(want...))
			}
		}
	}
	for _, c := range []struct{ s, want api.Solid }{
		{full(), api.Solid{}}, {made(at(7, 7, 0)), box(at(7, 7, 1), at(7, 7, 7))}, {made(at(3, 0, 2), at(3, 0, 5)), union(box(at(3, 0, 3), at(3, 0, 4)), box(at(3, 0, 6), at(3, 0, 7)))},
	} {
		if x, e := draw.Undercut(c.s); x != c.want || e != api.OK {
			t.Errorf("Undercut(%x): %x, error %d, want %x", c.s, x, e, c.want)
		}
	}
	if x, e := draw.Undercut(api.Solid{}); x != (api.Solid{}) || e != api.ErrArg {
		t.Errorf("Undercut of none: %x, error %d", x, e)
	}
}

func TestC9Without(t *testing.T) {
	for _, m := range append(many(), freeOnes()) {
		for p := range m {
			want := slices.Concat(m[:p], m[p+1:])
			if l, e := draw.Without(m, p); !slices.Equal(l, want) || e != api.OK {
				t.Fatalf("Without(%x, %d): %x, error %d", m, p, l, e)
			}
		}
		for _, p := range append(wrongNumbers(), len(m)) {
			if p >= 0 && p < len(m) {
				continue
			}
			if l, e := draw.Without(m, p); len(l) != 0 || e != api.ErrArg {
				t.Fatalf("Without(%x, %d): %x, error %d", m, p, l, e)
			}
		}
	}
}

func TestC9Joined(t *testing.T) {
	for _, m := range append(many(), freeOnes()) {
		for p := range m {
			for q := range m {
				l, e := draw.Joined(m, p, q)
				if p == q {
					if len(l) != 0 || e != api.ErrArg {
						t.Fatalf("Joined(%x, %d, %d): %x, error %d", m, p, q, l, e)
					}
					continue
				}
				var want []api.Solid
				for i, s := range m {
					if i == min(p, q) {
						want = append(want, union(m[p], m[q]))
					} else if i != max(p, q) {
						want = append(want, s)
					}
				}
				if !slices.Equal(l, want) || e != api.OK || draw.CheckMould(l) != api.OK {
					t.Fatalf("Joined(%x, %d, %d): %x, error %d, want %x", m, p, q, l, e, want)
				}
			}
		}
	}
	for _, n := range append(wrongNumbers(), 3) {
		for _, c := range [][2]int{{0, n}, {n, 0}, {n, n}} {
			if l, e := draw.Joined(mouldA(), c[0], c[1]); len(l) != 0 || e != api.ErrArg {
				t.Errorf("Joined(%v): %x, error %d", c, l, e)
			}
		}
	}
}
