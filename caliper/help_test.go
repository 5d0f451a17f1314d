package caliper_test

import (
	"math/rand/v2"
	"slices"
	"testing"

	"strickle/api"
	"strickle/caliper"
	"strickle/solid"
)

// shape returns the solid with a text.
func shape(text string) api.Solid {
	s, e := solid.Read(text)
	if e != api.OK {
		panic("no solid: " + text)
	}
	return s
}

// block returns a block at the corner of the grid.
func block(dx, dy, dz int) api.Solid {
	s, e := solid.Block(api.Box{High: api.Cell{X: dx - 1, Y: dy - 1, Z: dz - 1}})
	if e != api.OK {
		panic("no block")
	}
	return s
}

// The chapter's examples.

func blank() api.Solid { return shape("70707") }

func hook() api.Solid { return shape("107") }

func seen(id, known int, text string) api.Reading {
	return api.Reading{Id: id, Known: known, Kind: api.ReadSeen, Cells: shape(text)}
}

func bare(id, known int, text string) api.Reading {
	return api.Reading{Id: id, Known: known, Kind: api.ReadBare, Cells: shape(text)}
}

func void(id, known, of int) api.Reading {
	return api.Reading{Id: id, Known: known, Kind: api.ReadVoid, Of: of}
}

func sheet() []api.Reading {
	return []api.Reading{seen(1, 0, "7"), bare(2, 1, "200"), seen(3, 2, "200"), void(4, 3, 2)}
}

func wood() api.Wood { return api.Wood{Sure: shape("7"), Maybe: shape("70507")} }

func probe(text string, cost int) api.Probe { return api.Probe{Cells: shape(text), Cost: cost} }

func probes() []api.Probe { return []api.Probe{probe("100", 2), probe("400", 3), probe("500", 4)} }

func strategy() []api.Fork {
	return []api.Fork{{Probe: 0, Yes: -1, No: 1}, {Probe: 1, Yes: -1, No: -1}}
}

func state(cost int, found ...uint8) api.State { return api.State{Found: found, Cost: cost} }

func adversary() []api.State {
	return []api.State{state(5, 0, 0, 0), state(1, 0, 0, 2), state(2, 0, 2, 0), state(3, 2, 0, 0)}
}

// hasAll reports whether a solid has all cells of another one.
func hasAll(s, cells api.Solid) bool {
	for z := range s {
		if s[z]|cells[z] != s[z] {
			return false
		}
	}
	return true
}

// known are pairs of solids, with whether the second one fits into the first one.
var known = map[[2]api.Solid]bool{}

// fits reports whether an order fits into a solid.
func fits(s, order api.Solid) bool {
	is, ok := known[[2]api.Solid{s, order}]
	if !ok {
		l, _ := solid.Places(s, order)
		is = len(l) > 0
		known[[2]api.Solid{s, order}] = is
	}
	return is
}

// subsets returns all solids that have some of the cells of a solid.
func subsets(s api.Solid) []api.Solid {
	l := []api.Solid{{}}
	for _, c := range solid.Cells(s) {
		one, _ := solid.Of([]api.Cell{c})
		for _, x := range l {
			l = append(l, solid.Join(x, one))
		}
	}
	return l
}

// truths returns all truths of a wood.
func truths(w api.Wood) []api.Solid {
	var l []api.Solid
	for _, x := range subsets(solid.Less(w.Maybe, w.Sure)) {
		l = append(l, solid.Join(w.Sure, x))
	}
	return l
}

// question is a wood with probes and orders.
type question struct {
	wood   api.Wood
	probes []api.Probe
	orders []api.Solid
}

// chapter is the question of the chapter's examples.
func chapter() question { return question{wood(), probes(), []api.Solid{hook()}} }

// key is findings that maps can have, with what behind they are.
type key [8]int

func keyOf(found []int) key {
	var k key
	copy(k[:], found)
	return k
}

// model is a question with all its truths.
type model struct {
	question
	truths []api.Solid
	// costs are those from findings on, can and done whether there can be findings, and whether they decide the question or there cannot be them, as far as they were asked for.
	costs     map[key]int
	can, done map[key]bool
}

func modelOf(q question) *model {
	return &model{q, truths(q.wood), map[key]int{}, map[key]bool{}, map[key]bool{}}
}

// agrees reports whether a truth is behind findings, by the chapter's words.
func (q question) agrees(s api.Solid, found []int) bool {
	for i, p := range q.probes {
		if found[i] == 1 && !hasAll(s, p.Cells) || found[i] == 2 && hasAll(s, p.Cells) {
			return false
		}
	}
	return true
}

// behind returns all truths behind findings.
func (m *model) behind(found []int) []api.Solid {
	var l []api.Solid
	for _, s := range m.truths {
		if m.agrees(s, found) {
			l = append(l, s)
		}
	}
	return l
}

// look returns whether there can be findings, and whether they decide the question or there cannot be them.
func (m *model) look(found []int) (can, done bool) {
	k := keyOf(found)
	can, ok := m.can[k]
	if !ok {
		l := m.behind(found)
		can = len(l) > 0
		m.can[k], m.done[k] = can, !can || m.decided(l)
	}
	return can, m.done[k]
}

// judged returns how some solids serve an order.
func judged(l []api.Solid, order api.Solid) uint8 {
	n := 0
	for _, s := range l {
		if fits(s, order) {
			n++
		}
	}
	switch n {
	case len(l):
		return api.ServesSure
	case 0:
		return api.ServesNever
	}
	return api.ServesPerhaps
}

// decided reports whether some solids, those behind findings, decide the question.
func (q question) decided(l []api.Solid) bool {
	for _, order := range q.orders {
		if judged(l, order) == api.ServesPerhaps {
			return false
		}
	}
	return true
}

// open stands for the cost of a question that no strategy decides.
const open = 1 << 20

// with returns findings with another number.
func with(found []int, i, n int) []int {
	found = slices.Clone(found)
	found[i] = n
	return found
}

// none returns findings in which no probe was asked.
func (q question) none() []int { return make([]int, len(q.probes)) }

// cost returns what deciding the question costs behind findings that there can be, by trying all probes.
func (m *model) cost(found []int) int {
	k := keyOf(found)
	if c, ok := m.costs[k]; ok {
		return c
	}
	least := open
	if _, done := m.look(found); done {
		least = 0
	}
	for i, p := range m.probes {
		if found[i] != 0 || least == 0 {
			continue
		}
		worst := 0
		for n := 1; n <= 2; n++ {
			if can, _ := m.look(with(found, i, n)); can {
				worst = max(worst, m.cost(with(found, i, n)))
			}
		}
		least = min(least, p.Cost+worst)
	}
	m.costs[k] = least
	return least
}

// allFindings returns all findings of the probes.
func (q question) allFindings() [][]int {
	l := [][]int{{}}
	for range q.probes {
		var more [][]int
		for _, found := range l {
			for n := range 3 {
				more = append(more, append(slices.Clone(found), n))
			}
		}
		l = more
	}
	return l
}

// way reports whether a strategy does what it should on the way that some answers, bits that are yes, lead.
func (m *model) way(forks []api.Fork, answers, cost int) bool {
	at := -1
	if len(forks) > 0 {
		at = 0
	}
	found := m.none()
	paid := 0
	for {
		_, done := m.look(found)
		if at == -1 {
			return done && paid <= cost
		}
		x := forks[at]
		if done || x.Probe < 0 || x.Probe >= len(m.probes) || found[x.Probe] != 0 {
			return false
		}
		paid += m.probes[x.Probe].Cost
		found[x.Probe], at = 2, x.No
		if answers>>x.Probe&1 == 1 {
			found[x.Probe], at = 1, x.Yes
		}
	}
}

// isStrategy reports whether a list is a strategy that decides the question for a cost, by the chapter's words.
func (m *model) isStrategy(forks []api.Fork, cost int) bool {
	named := make([]int, len(forks))
	for i, x := range forks {
		for _, to := range []int{x.Yes, x.No} {
			if to == -1 {
				continue
			}
			if to <= i || to >= len(forks) {
				return false
			}
			named[to]++
		}
	}
	for i, n := range named {
		if i > 0 && n != 1 {
			return false
		}
	}
	for answers := range 1 << len(m.probes) {
		if !m.way(forks, answers, cost) {
			return false
		}
	}
	return true
}

// numbers returns the numbers of the findings of a state.
func numbers(found []uint8) []int {
	var l []int
	for _, n := range found {
		l = append(l, int(n))
	}
	return l
}

// areStates reports whether a list is an adversary, by the chapter's words.
func (q question) areStates(l []api.State) bool {
	for i, x := range l {
		if len(x.Found) != len(q.probes) || x.Cost < 1 || x.Cost > 100000 || len(x.Found) > 0 && slices.Max(x.Found) > 2 {
			return false
		}
		if i > 0 && slices.Compare(l[i-1].Found, x.Found) != -1 {
			return false
		}
	}
	return true
}

// isAdversary reports whether a list is an adversary that holds and shows a cost, by the chapter's words.
func (m *model) isAdversary(l []api.State, cost int) bool {
	if !m.areStates(l) {
		return false
	}
	shown := cost <= 0
	costs := map[key]int{}
	for _, x := range l {
		found := numbers(x.Found)
		costs[keyOf(found)] = x.Cost
		shown = shown || x.Cost >= cost && !slices.ContainsFunc(found, func(n int) bool { return n != 0 })
	}
	for _, x := range l {
		found := numbers(x.Found)
		if _, done := m.look(found); done {
			return false
		}
		for i, p := range m.probes {
			if found[i] != 0 {
				continue
			}
			answered := false
			for n := 1; n <= 2; n++ {
				next := with(found, i, n)
				left, ok := costs[keyOf(next)]
				if can, _ := m.look(next); can && (x.Cost <= p.Cost || ok && left >= x.Cost-p.Cost) {
					answered = true
				}
			}
			if !answered {
				return false
			}
		}
	}
	return shown
}

// shapes are some small orders.
func shapes() []api.Solid {
	return []api.Solid{
		block(1, 1, 1), block(2, 1, 1), block(3, 1, 1), block(4, 1, 1), block(2, 2, 1), block(3, 2, 1), block(2, 2, 2),
		hook(), shape("703"), shape("207"), shape("603"), shape("201"), shape("5"), shape("103.1"), shape("1.2"), shape("70507"), shape("401"), shape("8000000000000000"),
	}
}

// stand returns a solid somewhere in the grid, turned somehow.
func stand(r *rand.Rand, s api.Solid) api.Solid {
	s, _ = solid.Turned(s, r.IntN(api.Turns))
	for range 5 {
		if moved, e := solid.Moved(s, r.IntN(9)-4, r.IntN(9)-4, r.IntN(9)-4); e == api.OK {
			return moved
		}
	}
	return s
}

// shuffled returns the cells of a solid in some order.
func shuffled(r *rand.Rand, s api.Solid) []api.Cell {
	l := solid.Cells(s)
	r.Shuffle(len(l), func(i, j int) { l[i], l[j] = l[j], l[i] })
	return l
}

// of returns the solid with some cells.
func of(l []api.Cell) api.Solid {
	s, _ := solid.Of(l)
	return s
}

// someWood returns a wood with at most some open cells.
func someWood(r *rand.Rand, mostOpen int) api.Wood {
	blocks := []api.Solid{block(3, 3, 1), block(4, 2, 1), block(3, 2, 2), block(2, 2, 2), block(5, 1, 1), block(3, 3, 2), block(1, 1, 1)}
	l := shuffled(r, stand(r, blocks[r.IntN(len(blocks))]))
	n := min(r.IntN(mostOpen+1), len(l))
	rest := l[n:]
	sure := of(rest[:len(rest)-r.IntN(1+len(rest)/3)])
	return api.Wood{Sure: sure, Maybe: solid.Join(sure, of(l[:n]))}
}

// someProbe returns a probe, mostly of open cells.
func someProbe(r *rand.Rand, w api.Wood) api.Probe {
	l := shuffled(r, solid.Less(w.Maybe, w.Sure))
	cells := of(l[:min(len(l), 1+r.IntN(3))])
	if all := shuffled(r, w.Maybe); r.IntN(4) == 0 && len(all) > 0 {
		cells = solid.Join(cells, of(all[:1+r.IntN(len(all))]))
	}
	if r.IntN(10) == 0 || cells == (api.Solid{}) {
		cells = solid.Join(cells, of([]api.Cell{{X: r.IntN(8), Y: r.IntN(8), Z: r.IntN(8)}}))
	}
	return api.Probe{Cells: cells, Cost: 1 + r.IntN(pick(r, 3, 9, 1000))}
}

// pick returns one of some values.
func pick[T any](r *rand.Rand, l ...T) T { return l[r.IntN(len(l))] }

// someOrder returns an order that a wood may serve.
func someOrder(r *rand.Rand, w api.Wood) api.Solid {
	if l := shuffled(r, w.Maybe); r.IntN(4) == 0 && len(l) > 0 {
		return stand(r, of(l[:1+r.IntN(len(l))]))
	}
	l := shapes()
	return stand(r, l[r.IntN(len(l))])
}

// some returns a question with at most some open cells, probes and orders.
func some(r *rand.Rand, mostOpen, mostProbes, mostOrders int) question {
	q := question{wood: someWood(r, mostOpen)}
	for range r.IntN(mostProbes + 1) {
		q.probes = append(q.probes, someProbe(r, q.wood))
	}
	for range r.IntN(mostOrders + 1) {
		q.orders = append(q.orders, someOrder(r, q.wood))
	}
	return q
}

// likely returns a question like some, most of the open cells of which can be asked for one by one, and orders that are served perhaps, if they are found soon.
func likely(r *rand.Rand, mostProbes, mostOrders int) question {
	q := question{wood: someWood(r, mostProbes)}
	for len(solid.Cells(solid.Less(q.wood.Maybe, q.wood.Sure))) < 2 {
		q.wood = someWood(r, mostProbes)
	}
	for _, c := range shuffled(r, solid.Less(q.wood.Maybe, q.wood.Sure)) {
		if r.IntN(15) > 0 {
			q.probes = append(q.probes, api.Probe{Cells: of([]api.Cell{c}), Cost: 1 + r.IntN(pick(r, 3, 9, 1000))})
		}
	}
	for range mostProbes - len(q.probes) {
		q.probes = slices.Insert(q.probes, r.IntN(len(q.probes)+1), someProbe(r, q.wood))
	}
	for range 1 + r.IntN(mostOrders) {
		order := someOrder(r, q.wood)
		for i := 0; i < 9 && (fits(q.wood.Sure, order) || !fits(q.wood.Maybe, order)); i++ {
			order = someOrder(r, q.wood)
		}
		q.orders = append(q.orders, order)
	}
	return q
}

// questions returns the chapter's question and others, n of which have at most 6 open cells, 4 probes and 3 orders, and some more.
func questions(n int) []question {
	r := rand.New(rand.NewPCG(8, uint64(n)))
	l := []question{chapter(), {}, {wood: wood()}, {wood: wood(), orders: []api.Solid{hook()}}, {wood: wood(), probes: probes()}}
	for i := range n {
		if i%2 == 0 {
			l = append(l, some(r, 6, 4, 3))
		} else {
			l = append(l, likely(r, 4, 3))
		}
	}
	for range n / 25 {
		l = append(l, some(r, 7, 6, 6), likely(r, 6, 6))
	}
	return l
}

// parted returns a question with 64 open cells, which 8 probes ask for in parts, and 6 orders, each of which needs all cells of some of the parts.
func parted(r *rand.Rand) question {
	cells := shuffled(r, block(8, 8, 2))[:110]
	q := question{wood: api.Wood{Sure: of(cells[64:]), Maybe: of(cells)}}
	for i := range 8 {
		q.probes = append(q.probes, api.Probe{Cells: of(cells[8*i : 8*i+8]), Cost: 1 + r.IntN(9)})
	}
	for range 6 {
		order := q.wood.Maybe
		for _, i := range r.Perm(8)[:3+r.IntN(5)] {
			order = solid.Less(order, q.probes[i].Cells)
		}
		q.orders = append(q.orders, order)
	}
	return q
}

// single returns a question with 8 open cells, each of which is asked for by a probe, and 6 orders.
func single(r *rand.Rand) question {
	cells := shuffled(r, block(5, 5, 1))[:20]
	q := question{wood: api.Wood{Sure: of(cells[8:]), Maybe: of(cells)}}
	for _, c := range cells[:8] {
		q.probes = append(q.probes, api.Probe{Cells: of([]api.Cell{c}), Cost: 1 + r.IntN(9)})
	}
	for range 6 {
		q.orders = append(q.orders, someOrder(r, q.wood))
	}
	return q
}

// wide returns a question with 64 open cells, 8 probes and 6 orders.
func wide(r *rand.Rand) question {
	q := question{wood: api.Wood{Maybe: block(4, 4, 4)}}
	if r.IntN(2) == 0 {
		cells := shuffled(r, block(8, 8, 2))
		q.wood = api.Wood{Sure: of(cells[64:]), Maybe: block(8, 8, 2)}
	}
	for range 8 {
		q.probes = append(q.probes, someProbe(r, q.wood))
	}
	for range 6 {
		q.orders = append(q.orders, someOrder(r, q.wood))
	}
	return q
}

// large returns n questions of each kind with 8 probes.
func large(n int) []question {
	r := rand.New(rand.NewPCG(64, uint64(n)))
	var l []question
	for range n {
		l = append(l, parted(r), single(r), wide(r))
	}
	return l
}

// costed returns the cost of a question, shown by a strategy and an adversary, and whether a strategy decides it: 100000 and false if none does.
func costed(t *testing.T, q question) (int, bool) {
	t.Helper()
	cost, e := caliper.Cost(q.wood, q.probes, q.orders)
	forks, f := caliper.Strategy(q.wood, q.probes, q.orders)
	states, g := caliper.Adversary(q.wood, q.probes, q.orders)
	if e != f || g != api.OK || e != api.OK && (e != api.ErrOpen || cost != 0 || len(forks) > 0) {
		t.Fatalf("%v: Cost %d, error %d, Strategy %v, error %d, Adversary %v, error %d", q, cost, e, forks, f, states, g)
	}
	if e == api.OK {
		if ok, e := caliper.CheckStrategy(q.wood, q.probes, q.orders, forks, cost); !ok || e != api.OK {
			t.Fatalf("%v: CheckStrategy(%v, %d): %v, error %d", q, forks, cost, ok, e)
		}
	} else {
		cost = 100000
	}
	if ok, e := caliper.CheckAdversary(q.wood, q.probes, q.orders, states, cost); !ok || e != api.OK || cost == 0 && len(states) > 0 {
		t.Fatalf("%v: CheckAdversary(%v, %d): %v, error %d", q, states, cost, ok, e)
	}
	if cost > 0 && !slices.ContainsFunc(states, func(x api.State) bool {
		return x.Cost == cost && !slices.ContainsFunc(x.Found, func(n uint8) bool { return n != 0 })
	}) {
		t.Fatalf("%v: no state of %v shows the cost %d", q, states, cost)
	}
	return cost, e == api.OK
}
