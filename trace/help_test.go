package trace_test

import (
	"fmt"
	"math/rand/v2"
	"slices"

	"strickle/api"
)

// at returns a cell.
func at(x, y, z int) api.Cell { return api.Cell{X: x, Y: y, Z: z} }

// made returns the solid with some cells.
func made(l ...api.Cell) api.Solid {
	var s api.Solid
	for _, c := range l {
		s[c.Z] |= 1 << (8*c.Y + c.X)
	}
	return s
}

// cellsOf returns the cells of a solid.
func cellsOf(s api.Solid) []api.Cell {
	var l []api.Cell
	for n := range 512 {
		if s[n/64]>>(n%64)&1 == 1 {
			l = append(l, at(n%8, n/8%8, n/64))
		}
	}
	return l
}

// blockB is the chapter's blank B.
func blockB() api.Solid { return api.Solid{0x0f0f0f0f} }

// full is the whole grid.
func full() api.Solid {
	var s api.Solid
	for z := range s {
		s[z] = 1<<64 - 1
	}
	return s
}

// The actions of the tests.

func cut(l ...api.Cell) api.Action { return api.Action{Kind: api.ActCut, Cells: made(l...)} }

func fit(piece int) api.Action { return api.Action{Kind: api.ActFit, Piece: piece} }

func take(piece int) api.Action { return api.Action{Kind: api.ActTake, Piece: piece} }

// cutA, cutB and cutC are the chapter's a, b and c.
func cutA() api.Action { return cut(at(3, 3, 0)) }

func cutB() api.Action { return cut(at(3, 3, 0), at(2, 3, 0)) }

func cutC() api.Action { return cut(at(0, 0, 0)) }

// patternB is the chapter's pattern.
func patternB() api.Pattern {
	return api.Pattern{Blank: blockB(), Pieces: []api.Solid{made(at(0, 0, 1)), made(at(0, 0, 1), at(1, 0, 1))}}
}

// full8 is a pattern with eight pieces, two of them alike, one in the blank, one that has cells of the blank and others.
func full8() api.Pattern {
	return api.Pattern{Blank: made(at(0, 0, 0), at(1, 0, 0), at(2, 0, 0), at(3, 0, 0), at(4, 0, 0)), Pieces: []api.Solid{
		made(at(0, 0, 1)), made(at(0, 0, 1)), made(at(1, 0, 0)), made(at(2, 0, 0), at(2, 0, 1)), made(at(5, 5, 5)), made(at(5, 5, 5), at(6, 5, 5)), made(at(7, 7, 7)), made(at(0, 7, 7), at(7, 7, 7)),
	}}
}

// of returns a history of the chapter's pattern.
func of(acts ...api.Action) api.History { return api.History{Pattern: patternB(), Acts: acts} }

// solo returns a history of a pattern that is the whole grid, without pieces.
func solo(acts ...api.Action) api.History {
	return api.History{Pattern: api.Pattern{Blank: full()}, Acts: acts}
}

// cuts returns the cuts of n single cells, from the one with a number on; all of them are independent.
func cuts(from, n int) []api.Action {
	var l []api.Action
	for i := from; i < from+n; i++ {
		l = append(l, cut(at(i%8, i/8%8, i/64)))
	}
	return l
}

// swings returns n acts that fit and take off a piece by turns.
func swings(piece, n int) []api.Action {
	var l []api.Action
	for i := range n {
		if i%2 == 0 {
			l = append(l, fit(piece))
		} else {
			l = append(l, take(piece))
		}
	}
	return l
}

// touched returns the cells of an action of a pattern.
func touched(p api.Pattern, a api.Action) []api.Cell {
	if a.Kind == api.ActCut {
		return cellsOf(a.Cells)
	}
	return cellsOf(p.Pieces[a.Piece])
}

// apart reports whether no cell is one of both actions.
func apart(p api.Pattern, a, b api.Action) bool {
	for _, c := range touched(p, a) {
		if slices.Contains(touched(p, b), c) {
			return false
		}
	}
	return true
}

// bench is a pattern on which actions are done, cell by cell and piece by piece.
type bench struct {
	pattern api.Pattern
	wood    map[api.Cell]bool
	on      map[int]bool
}

func benchOf(p api.Pattern) bench {
	b := bench{p, map[api.Cell]bool{}, map[int]bool{}}
	for _, c := range cellsOf(p.Blank) {
		b.wood[c] = true
	}
	return b
}

// hasWood counts the cells of an action that are wood, and those that are not.
func (b bench) hasWood(a api.Action) (is, not int) {
	for _, c := range touched(b.pattern, a) {
		if b.wood[c] {
			is++
		} else {
			not++
		}
	}
	return is, not
}

// try returns why an action is refused, or OK.
func (b bench) try(a api.Action) api.Errno {
	piece := a.Piece >= 0 && a.Piece < len(b.pattern.Pieces) && a.Cells == api.Solid{}
	switch {
	case a.Kind == api.ActCut && a.Piece == 0 && a.Cells != api.Solid{}:
	case a.Kind == api.ActFit && piece:
	case a.Kind == api.ActTake && piece:
	default:
		return api.ErrArg
	}
	is, not := b.hasWood(a)
	switch {
	case a.Kind == api.ActFit && b.on[a.Piece], a.Kind == api.ActTake && !b.on[a.Piece]:
		return api.ErrPiece
	case a.Kind == api.ActFit && is > 0:
		return api.ErrPlace
	case a.Kind != api.ActFit && not > 0:
		return api.ErrCut
	}
	return api.OK
}

// do does a possible action.
func (b bench) do(a api.Action) {
	for _, c := range touched(b.pattern, a) {
		b.wood[c] = a.Kind == api.ActFit
	}
	if a.Kind != api.ActCut {
		b.on[a.Piece] = a.Kind == api.ActFit
	}
}

// stand returns what the pattern is now.
func (b bench) stand() api.Stand {
	var s api.Stand
	for c, is := range b.wood {
		if is {
			s.Wood[c.Z] |= 1 << (8*c.Y + c.X)
		}
	}
	for i, is := range b.on {
		if is {
			s.On |= 1 << i
		}
	}
	return s
}

// done does acts: it returns the index of the first one that is refused, why, and what the pattern is then.
func done(p api.Pattern, acts []api.Action) (int, api.Errno, api.Stand) {
	b := benchOf(p)
	for i, a := range acts {
		if e := b.try(a); e != api.OK {
			return i, e, b.stand()
		}
		b.do(a)
	}
	return 0, api.OK, b.stand()
}

// before reports whether an action sorts before another one.
func before(a, b api.Action) bool {
	if a.Kind != b.Kind {
		return a.Kind < b.Kind
	}
	if a.Piece != b.Piece {
		return a.Piece < b.Piece
	}
	for z := range a.Cells {
		if a.Cells[z] != b.Cells[z] {
			return a.Cells[z] < b.Cells[z]
		}
	}
	return false
}

// listBefore reports whether a list of actions sorts before another one.
func listBefore(l, m []api.Action) bool {
	for i := range min(len(l), len(m)) {
		if l[i] != m[i] {
			return before(l[i], m[i])
		}
	}
	return len(l) < len(m)
}

// orbit returns, as lists of the acts' indices, all that comes of a list of actions by exchanging neighbours that are independent.
func orbit(p api.Pattern, acts []api.Action) [][]int {
	first := make([]int, len(acts))
	for i := range first {
		first[i] = i
	}
	seen := map[string]bool{fmt.Sprint(first): true}
	l := [][]int{first}
	for n := 0; n < len(l); n++ {
		for i := 1; i < len(acts); i++ {
			if !apart(p, acts[l[n][i-1]], acts[l[n][i]]) {
				continue
			}
			x := slices.Clone(l[n])
			x[i-1], x[i] = x[i], x[i-1]
			if name := fmt.Sprint(x); !seen[name] {
				seen[name] = true
				l = append(l, x)
			}
		}
	}
	return l
}

// picked returns the acts with some indices.
func picked(acts []api.Action, indices []int) []api.Action {
	var l []api.Action
	for _, i := range indices {
		l = append(l, acts[i])
	}
	return l
}

// all returns what comes of a list of actions by exchanges, the least list first.
func all(p api.Pattern, acts []api.Action) [][]api.Action {
	var l [][]api.Action
	for _, x := range orbit(p, acts) {
		l = append(l, picked(acts, x))
		if last := len(l) - 1; listBefore(l[last], l[0]) {
			l[0], l[last] = l[last], l[0]
		}
	}
	return l
}

// least returns the least one of all lists that come of a list of actions by exchanges.
func least(p api.Pattern, acts []api.Action) []api.Action { return all(p, acts)[0] }

// leftOver takes acts, one behind the other, off the front of a list, where exchanges bring them there: it returns what is left, and whether all of them could be taken off.
func leftOver(p api.Pattern, acts, list []api.Action) ([]api.Action, bool) {
	left := slices.Clone(list)
	for _, a := range acts {
		i := slices.Index(left, a)
		if i < 0 || slices.ContainsFunc(left[:i], func(b api.Action) bool { return !apart(p, a, b) }) {
			return nil, false
		}
		left = slices.Delete(left, i, i+1)
	}
	return left, true
}

// sameByExchanges reports whether a list comes of another one by exchanges.
func sameByExchanges(p api.Pattern, l, m []api.Action) bool {
	left, ok := leftOver(p, l, m)
	return ok && len(left) == 0
}

// patterns are the patterns of the tests.
func patterns() []api.Pattern {
	return []api.Pattern{
		patternB(), full8(), {Blank: made(at(0, 0, 0), at(1, 0, 0), at(7, 7, 7))},
		{Blank: full(), Pieces: []api.Solid{made(at(1, 1, 1)), made(at(1, 1, 1), at(1, 1, 2))}},
		{Blank: made(at(0, 0, 0)), Pieces: []api.Solid{made(at(1, 0, 0)), made(at(2, 0, 0)), made(at(3, 0, 0), at(4, 0, 0)), made(at(4, 0, 0), at(5, 0, 0))}},
	}
}

// drawnAct returns some possible action, and whether one was found.
func drawnAct(r *rand.Rand, b bench) (api.Action, bool) {
	for range 40 {
		var a api.Action
		n := len(b.pattern.Pieces)
		switch k := r.IntN(3); {
		case k == 0 || n == 0:
			cells := cellsOf(b.stand().Wood)
			if len(cells) == 0 {
				continue
			}
			a = cut(cells[r.IntN(len(cells))], cells[r.IntN(len(cells))])
		case k == 1:
			a = fit(r.IntN(n))
		default:
			a = take(r.IntN(n))
		}
		if b.try(a) == api.OK {
			return a, true
		}
	}
	return api.Action{}, false
}

// goneOn returns a list of acts with up to n further ones.
func goneOn(r *rand.Rand, p api.Pattern, acts []api.Action, n int) []api.Action {
	l := slices.Clone(acts)
	b := benchOf(p)
	for _, a := range acts {
		b.do(a)
	}
	for range n {
		a, ok := drawnAct(r, b)
		if !ok {
			break
		}
		b.do(a)
		l = append(l, a)
	}
	return l
}

// drawn returns n histories of each pattern with up to most acts, the same ones each time.
func drawn(n, most int) []api.History {
	r := rand.New(rand.NewPCG(21, 22))
	var l []api.History
	for _, p := range patterns() {
		for range n {
			l = append(l, api.History{Pattern: p, Acts: goneOn(r, p, nil, r.IntN(most+1))})
		}
	}
	return l
}

// named are histories that are written out.
func named() []api.History {
	a, b, c := cutA(), cutB(), cutC()
	return []api.History{
		of(), of(a), of(b), of(a, c), of(c, a), of(c, fit(0)), of(fit(0), c, a), of(a, c, fit(0), take(0)), of(fit(0), a, take(0), c), of(fit(0), take(0), fit(0)), of(fit(1), take(1), fit(0)),
		of(fit(0), cut(at(0, 0, 1)), fit(1), take(0)), of(fit(1), cut(at(1, 0, 1)), a), solo(cuts(0, 5)...),
		{Pattern: full8(), Acts: []api.Action{fit(0), cut(at(0, 0, 1)), fit(1), take(0), fit(0)}},
		{Pattern: full8(), Acts: []api.Action{fit(4), fit(6), take(4), fit(5), cut(at(6, 5, 5))}},
		{Pattern: full8(), Acts: []api.Action{cut(at(1, 0, 0)), fit(2), cut(at(1, 0, 0), at(2, 0, 0)), fit(3), take(3), fit(7)}},
	}
}

// some are histories of all kinds with so few acts that all that is equal to them can be listed.
func some() []api.History { return append(named(), drawn(16, 6)...) }

// long are histories with many acts.
func long() []api.History {
	l := drawn(8, 60)
	r := rand.New(rand.NewPCG(23, 24))
	for _, p := range patterns() {
		l = append(l, api.History{Pattern: p, Acts: goneOn(r, p, nil, 60)})
	}
	return append(l, solo(cuts(0, 60)...), of(swings(0, 60)...), of(swings(1, 59)...))
}

// mixed returns a list of acts after many exchanges.
func mixed(r *rand.Rand, p api.Pattern, acts []api.Action) []api.Action {
	l := slices.Clone(acts)
	for range 20 * len(l) {
		i := r.IntN(len(l))
		if i > 0 && apart(p, l[i-1], l[i]) {
			l[i-1], l[i] = l[i], l[i-1]
		}
	}
	return l
}

// samePattern reports whether two patterns have the same blank and the same pieces in their order.
func samePattern(p, q api.Pattern) bool {
	return p.Blank == q.Blank && slices.Equal(p.Pieces, q.Pieces)
}

// is reports whether a history has a pattern and a list of acts.
func is(h api.History, p api.Pattern, acts []api.Action) bool {
	return samePattern(h.Pattern, p) && slices.Equal(h.Acts, acts)
}

// zero reports whether a history is a zero value.
func zero(h api.History) bool { return is(h, api.Pattern{}, nil) }

// wrongNumbers are numbers that no act and no piece has.
func wrongNumbers() []int {
	return []int{-1, -2, -1 << 63, 1<<63 - 1, 64, 1 << 32, 1<<32 + 1, 100}
}

// wrongActions are actions that no pattern has.
func wrongActions() []api.Action {
	one := made(at(0, 0, 0))
	l := []api.Action{
		{}, {Cells: one}, {Kind: 4}, {Kind: 4, Cells: one}, {Kind: 255}, {Kind: api.ActCut}, {Kind: api.ActCut, Piece: 1, Cells: one}, {Kind: api.ActCut, Piece: -1, Cells: one},
		{Kind: api.ActFit, Cells: one}, {Kind: api.ActTake, Cells: one}, {Kind: api.ActFit, Piece: 1, Cells: api.Solid{7: 1 << 63}}, fit(8), take(8),
	}
	for _, n := range wrongNumbers() {
		l = append(l, fit(n), take(n))
	}
	return l
}

// wrong is a history that is none, with what Check returns of it.
type wrong struct {
	h  api.History
	at int
	e  api.Errno
}

// wrongOnes are histories that are none.
func wrongOnes() []wrong {
	one, nine := made(at(0, 0, 0)), make([]api.Solid, 9)
	late := append(swings(0, 59), fit(0))
	l := []wrong{
		{api.History{}, 0, api.ErrArg},
		{api.History{Acts: []api.Action{cutC()}}, 0, api.ErrArg},
		{api.History{Acts: cuts(0, 61)}, 0, api.ErrArg},
		{api.History{Pattern: api.Pattern{Blank: one, Pieces: nine}}, 0, api.ErrLimit},
		{api.History{Pattern: api.Pattern{Pieces: nine}}, 0, api.ErrLimit},
		{api.History{Pattern: api.Pattern{Blank: one, Pieces: []api.Solid{one, {}}}}, 0, api.ErrArg},
		{of(swings(0, 61)...), 0, api.ErrLimit},
		{of(append(cuts(8, 1), make([]api.Action, 60)...)...), 0, api.ErrLimit},
		{of(make([]api.Action, 61)...), 0, api.ErrLimit},
		{of(late...), 59, api.ErrPiece},
		{of(cutA(), cutB()), 1, api.ErrCut},
		{of(fit(0), fit(1)), 1, api.ErrPlace},
		{of(take(0)), 0, api.ErrPiece},
		{of(cutC(), fit(0), fit(0)), 2, api.ErrPiece},
		{of(fit(1), cut(at(1, 0, 1)), take(1)), 2, api.ErrCut},
		{of(fit(0), cut(at(0, 0, 1)), fit(0)), 2, api.ErrPiece},
		{of(cutA(), fit(2)), 1, api.ErrArg},
		{of(cutA(), cutA(), fit(2), take(0)), 1, api.ErrCut},
	}
	for _, a := range wrongActions() {
		l = append(l, wrong{of(cutC(), fit(1), a, take(0)), 2, api.ErrArg})
	}
	return l
}
