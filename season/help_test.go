package season_test

import (
	"iter"
	"math"
	"math/rand/v2"
	"slices"

	"strickle/api"
	"strickle/solid"
)

// block returns a block at the corner of the grid.
func block(dx, dy, dz int) api.Solid {
	s, e := solid.Block(api.Box{High: api.Cell{X: dx - 1, Y: dy - 1, Z: dz - 1}})
	if e != api.OK {
		panic("no block")
	}
	return s
}

// The woods of the chapter's examples.

func woodL() api.Solid { return block(3, 2, 1) }

func woodM() api.Solid { return block(2, 2, 1) }

func woodS() api.Solid { return block(2, 1, 1) }

func woodV() api.Solid { return block(1, 1, 3) }

// chapter is the season of the chapter's examples.
func chapter() api.Season {
	return api.Season{
		Orders: []api.Order{
			{Id: 1, From: 0, To: 5, Size: 100, Price: 60, Wood: woodL()},
			{Id: 2, From: 6, To: 9, Size: 100, Price: 40, Wood: woodM()},
			{Id: 3, From: 6, To: 9, Size: 100, Price: 30, Wood: woodV()},
			{Id: 4, From: 10, To: 12, Size: 100, Price: 20, Wood: woodS()},
			{Id: 5, From: 4, To: 8, Size: 100, Price: 30, Wood: woodV()},
		},
		Spares: []api.Spare{{Id: 9, Size: 100, Wood: woodL()}, {Id: 8, Size: 100, Wood: block(1, 1, 2)}},
		Rate:   3,
	}
}

// anew returns the chain of a new pattern.
func anew(orders ...int) api.Chain { return api.Chain{Orders: orders} }

// of returns the chain of a spare.
func of(spare int, orders ...int) api.Chain { return api.Chain{Spare: spare, Orders: orders} }

// woods are some solids, many of which can be cut from others.
func woods() []api.Solid {
	ring, _ := solid.Read("70507")
	hook, _ := solid.Read("107")
	other, _ := solid.Read("407")
	tower, _ := solid.Read("107.1.1")
	return []api.Solid{
		block(1, 1, 1), woodS(), woodV(), block(4, 1, 1), woodM(), woodL(), block(3, 3, 1), block(2, 2, 2), block(3, 3, 3), block(8, 8, 8),
		ring, hook, other, tower, solid.Join(hook, other), {1 << 63, 0, 1 << 63}, {0x8001, 0x180},
	}
}

// stand returns a solid somewhere in the grid, turned somehow.
func stand(r *rand.Rand, s api.Solid) api.Solid {
	s, _ = solid.Turned(s, r.IntN(api.Turns))
	if moved, e := solid.Moved(s, r.IntN(5)-2, r.IntN(5)-2, r.IntN(5)-2); e == api.OK {
		return moved
	}
	return s
}

// sample returns a season with some orders and spares, in so many days.
func sample(r *rand.Rand, orders, spares, days int) api.Season {
	s := api.Season{Rate: r.IntN(5)}
	some := woods()
	r.Shuffle(len(some), func(i, j int) { some[i], some[j] = some[j], some[i] })
	some = some[:2+r.IntN(len(some)-1)]
	wood := func() api.Solid { return stand(r, some[r.IntN(len(some))]) }
	size := func() int { return 100 + r.IntN(5)/4 }
	price := 1 + r.IntN(60)
	for _, id := range r.Perm(2 * api.MaxOrders)[:orders] {
		from := r.IntN(days)
		s.Orders = append(s.Orders, api.Order{Id: id + 1, From: from, To: from + r.IntN(1+days/4), Size: size(), Price: r.IntN(price), Wood: wood()})
	}
	for _, id := range r.Perm(2 * api.MaxOrders)[:spares] {
		s.Spares = append(s.Spares, api.Spare{Id: id + 1, Size: size(), Wood: wood()})
	}
	return s
}

// small returns the chapter's season, empty ones, and n with at most some orders and spares.
func small(n, orders, spares int) []api.Season {
	r := rand.New(rand.NewPCG(uint64(n), uint64(100*orders+spares)))
	l := []api.Season{chapter(), {}, {Spares: chapter().Spares, Rate: 7}, {Orders: chapter().Orders}}
	for range n {
		l = append(l, sample(r, r.IntN(orders+1), r.IntN(spares+1), 1+r.IntN(30)))
	}
	return l
}

// large returns n seasons with many orders.
func large(n int) []api.Season {
	r := rand.New(rand.NewPCG(uint64(n), 40))
	var l []api.Season
	for range n {
		l = append(l, sample(r, 30+r.IntN(11), r.IntN(21), 10+r.IntN(100)))
	}
	return append(l, sample(r, api.MaxOrders, api.MaxSpares, 60), sample(r, api.MaxOrders, api.MaxSpares, 200))
}

// known are pairs of solids, with whether the second one can be cut from the first one.
var known = map[[2]api.Solid]bool{}

// canCut reports whether a solid can be cut from another one.
func canCut(a, b api.Solid) bool {
	can, ok := known[[2]api.Solid{a, b}]
	if !ok {
		l, _ := solid.Places(a, b)
		can = len(l) > 0
		known[[2]api.Solid{a, b}] = can
	}
	return can
}

// follows reports whether an order can follow another one, by the chapter's words.
func follows(first, next api.Order) bool {
	return next.From > first.To && next.Size == first.Size && canCut(first.Wood, next.Wood)
}

// begins reports whether a spare can begin an order, by the chapter's words.
func begins(x api.Spare, order api.Order) bool {
	return x.Size == order.Size && canCut(x.Wood, order.Wood)
}

// orderOf returns the order with an Id, and whether there is one.
func orderOf(s api.Season, id int) (api.Order, bool) {
	i := slices.IndexFunc(s.Orders, func(x api.Order) bool { return x.Id == id })
	if i < 0 {
		return api.Order{}, false
	}
	return s.Orders[i], true
}

// spareOf returns the spare with an Id, and whether there is one.
func spareOf(s api.Season, id int) (api.Spare, bool) {
	i := slices.IndexFunc(s.Spares, func(x api.Spare) bool { return x.Id == id })
	if i < 0 {
		return api.Spare{}, false
	}
	return s.Spares[i], true
}

// orderIds returns the Ids of all orders, ascending.
func orderIds(s api.Season) []int {
	var l []int
	for _, x := range s.Orders {
		l = append(l, x.Id)
	}
	slices.Sort(l)
	return l
}

// spareIds returns the Ids of all spares, ascending.
func spareIds(s api.Season) []int {
	var l []int
	for _, x := range s.Spares {
		l = append(l, x.Id)
	}
	slices.Sort(l)
	return l
}

// isChain reports whether a chain is one of a season, by the chapter's words.
func isChain(s api.Season, c api.Chain) bool {
	var list []api.Order
	for _, id := range c.Orders {
		x, ok := orderOf(s, id)
		if !ok {
			return false
		}
		list = append(list, x)
	}
	if len(list) == 0 {
		return false
	}
	for i := 1; i < len(list); i++ {
		if !follows(list[i-1], list[i]) {
			return false
		}
	}
	x, ok := spareOf(s, c.Spare)
	return c.Spare == 0 || ok && begins(x, list[0])
}

// isPlan reports whether chains are a plan, by the chapter's words.
func isPlan(s api.Season, l []api.Chain) bool {
	var orders, spares []int
	for _, c := range l {
		if !isChain(s, c) {
			return false
		}
		orders = append(orders, c.Orders...)
		if c.Spare != 0 {
			spares = append(spares, c.Spare)
		}
	}
	slices.Sort(orders)
	slices.Sort(spares)
	return slices.Equal(orders, orderIds(s)) && len(slices.Compact(slices.Clone(spares))) == len(spares)
}

// sum returns the number and the cost of a plan, by the chapter's words.
func sum(s api.Season, l []api.Chain) (number, cost int) {
	for _, c := range l {
		first, _ := orderOf(s, c.Orders[0])
		wood := first.Wood
		if x, ok := spareOf(s, c.Spare); ok {
			wood = x.Wood
		} else {
			number++
			cost += first.Price
		}
		for _, id := range c.Orders {
			x, _ := orderOf(s, id)
			cost += s.Rate * (len(solid.Cells(wood)) - len(solid.Cells(x.Wood)))
			wood = x.Wood
		}
	}
	return number, cost
}

// byDay returns the orders by their days From.
func byDay(s api.Season) []api.Order {
	return slices.SortedStableFunc(slices.Values(s.Orders), func(x, y api.Order) int { return x.From - y.From })
}

// plans yields all plans of a season: each order in turn goes behind the last one of some chain, or begins one.
func plans(s api.Season) iter.Seq[[]api.Chain] {
	orders := byDay(s)
	return func(yield func([]api.Chain) bool) {
		var place func(i int, l []api.Chain) bool
		place = func(i int, l []api.Chain) bool {
			if i == len(orders) {
				return yield(l)
			}
			id := orders[i].Id
			for k, c := range l {
				if last, _ := orderOf(s, c.Orders[len(c.Orders)-1]); follows(last, orders[i]) {
					more := slices.Clone(l)
					more[k].Orders = append(slices.Clone(c.Orders), id)
					if !place(i+1, more) {
						return false
					}
				}
			}
			for _, x := range s.Spares {
				used := slices.ContainsFunc(l, func(c api.Chain) bool { return c.Spare == x.Id })
				if !used && begins(x, orders[i]) && !place(i+1, append(slices.Clone(l), of(x.Id, id))) {
					return false
				}
			}
			return place(i+1, append(slices.Clone(l), anew(id)))
		}
		place(0, nil)
	}
}

// least returns the least number of all plans, and the least cost of all plans with it.
func least(s api.Season) (number, cost int) {
	number = math.MaxInt
	for l := range plans(s) {
		n, c := sum(s, l)
		if n < number || n == number && c < cost {
			number, cost = n, c
		}
	}
	return number, cost
}

// starters returns, ascending, the spares that can begin at least one of some orders.
func starters(s api.Season, l []int) []int {
	var ids []int
	for _, id := range spareIds(s) {
		x, _ := spareOf(s, id)
		if slices.ContainsFunc(l, func(id int) bool {
			order, _ := orderOf(s, id)
			return begins(x, order)
		}) {
			ids = append(ids, id)
		}
	}
	return ids
}

// free reports whether there are all orders of a list, and no two of them can follow each other.
func free(s api.Season, l []int) bool {
	for _, i := range l {
		x, ok := orderOf(s, i)
		if !ok {
			return false
		}
		for _, j := range l {
			if y, _ := orderOf(s, j); follows(x, y) {
				return false
			}
		}
	}
	return true
}

// isBar reports whether a list is a bar, by the chapter's words.
func isBar(s api.Season, l []int) bool {
	for i := 1; i < len(l); i++ {
		if l[i] <= l[i-1] {
			return false
		}
	}
	return free(s, l)
}

// bound returns the bound of a bar.
func bound(s api.Season, l []int) int { return len(l) - len(starters(s, l)) }

// sets yields all sets of some numbers, each in their order.
func sets(l []int) iter.Seq[[]int] {
	return func(yield func([]int) bool) {
		for n := range 1 << len(l) {
			var set []int
			for i, x := range l {
				if n>>i&1 == 1 {
					set = append(set, x)
				}
			}
			if !yield(set) {
				return
			}
		}
	}
}

// bars yields all bars of a season.
func bars(s api.Season) iter.Seq[[]int] {
	return func(yield func([]int) bool) {
		for l := range sets(orderIds(s)) {
			if free(s, l) && !yield(l) {
				return
			}
		}
	}
}

// within reports whether all numbers of a list are from least to most.
func within(l []int, least, most int) bool {
	return !slices.ContainsFunc(l, func(n int) bool { return n < least || n > most })
}

// caps returns what Serve of each order may be at most, if Leave and Start are so.
func caps(s api.Season, p api.Prices) []int {
	var l []int
	for _, x := range s.Orders {
		most := 1000000000 + x.Price
		cells := len(solid.Cells(x.Wood))
		for i, y := range s.Orders {
			if follows(y, x) {
				most = min(most, p.Leave[i]+s.Rate*(len(solid.Cells(y.Wood))-cells))
			}
		}
		for k, y := range s.Spares {
			if begins(y, x) {
				most = min(most, p.Start[k]+s.Rate*(len(solid.Cells(y.Wood))-cells))
			}
		}
		l = append(l, most)
	}
	return l
}

// areRight returns the bound of prices, and whether they are right, by the chapter's words.
func areRight(s api.Season, p api.Prices) (int, bool) {
	if len(p.Serve) != len(s.Orders) || len(p.Leave) != len(s.Orders) || len(p.Start) != len(s.Spares) {
		return 0, false
	}
	if !within(p.Serve, -100000000000, 100000000000) || !within(p.Leave, 0, 100000000000) || !within(p.Start, 0, 100000000000) {
		return 0, false
	}
	bound := 0
	for i, most := range caps(s, p) {
		if p.Serve[i] > most {
			return 0, false
		}
		bound += p.Serve[i] - p.Leave[i]
	}
	for _, n := range p.Start {
		bound -= n
	}
	return bound, true
}

// areLevels reports whether lists have each order once, and nothing else, and no list has two of which one can follow the other one.
func areLevels(s api.Season, l [][]int) bool {
	all := slices.Concat(l...)
	slices.Sort(all)
	return slices.Equal(all, orderIds(s)) && !slices.ContainsFunc(l, func(level []int) bool { return !free(s, level) })
}

// levels returns the levels, each one taken away from the orders by the chapter's words.
func levels(s api.Season) [][]int {
	var l [][]int
	for rest := slices.Clone(s.Orders); len(rest) > 0; {
		var level []int
		later := func(x api.Order) bool {
			return slices.ContainsFunc(rest, func(y api.Order) bool { return follows(y, x) })
		}
		var more []api.Order
		for _, x := range rest {
			if later(x) {
				more = append(more, x)
			} else {
				level = append(level, x.Id)
			}
		}
		slices.Sort(level)
		l = append(l, level)
		rest = more
	}
	return l
}

// longest returns how many orders the longest list has in which each can follow the one before, of all lists.
func longest(s api.Season) int {
	most := 0
	for l := range sets(orderIds(s)) {
		list := slices.SortedFunc(slices.Values(l), func(a, b int) int {
			x, _ := orderOf(s, a)
			y, _ := orderOf(s, b)
			return x.From - y.From
		})
		if len(l) > 0 && isChain(s, anew(list...)) {
			most = max(most, len(l))
		}
	}
	return most
}

// sameSeason reports whether two seasons are the same.
func sameSeason(s, t api.Season) bool {
	return slices.Equal(s.Orders, t.Orders) && slices.Equal(s.Spares, t.Spares) && s.Rate == t.Rate
}

// noSeason reports whether a season has nothing.
func noSeason(s api.Season) bool { return sameSeason(s, api.Season{}) }

// sameLists reports whether two lists of lists are the same.
func sameLists(l, m [][]int) bool {
	return slices.EqualFunc(l, m, func(a, b []int) bool { return slices.Equal(a, b) })
}

// pick returns one of some things.
func pick[T any](r *rand.Rand, l ...T) T { return l[r.IntN(len(l))] }

// wrongOrders are orders that are not as the chapter says.
func wrongOrders() []api.Order {
	good := api.Order{Id: 7, From: 3, To: 5, Size: 10, Price: 20, Wood: woodS()}
	var l []api.Order
	for _, change := range []func(*api.Order, int){
		func(x *api.Order, n int) { x.Id = n },
		func(x *api.Order, n int) { x.Size = n },
	} {
		for _, n := range []int{0, -1, 1000001, math.MinInt, math.MaxInt} {
			x := good
			change(&x, n)
			l = append(l, x)
		}
	}
	for _, n := range []int{-1, 1000001, math.MinInt, math.MaxInt} {
		x := good
		x.Price = n
		l = append(l, x)
	}
	for _, days := range [][2]int{{-1, 5}, {6, 5}, {100000, 99999}, {3, 100001}, {100001, 100001}, {-1, -1}, {0, -1}, {math.MinInt, 5}, {math.MaxInt, math.MaxInt}, {3, math.MaxInt}, {math.MaxInt, math.MinInt}} {
		x := good
		x.From, x.To = days[0], days[1]
		l = append(l, x)
	}
	bare := good
	bare.Wood = api.Solid{}
	return append(l, bare, api.Order{})
}

// goodOrders are orders at the ends of what they may be.
func goodOrders() []api.Order {
	return []api.Order{
		{Id: 1, Size: 1, Wood: api.Solid{1}},
		{Id: 1000000, From: 100000, To: 100000, Size: 1000000, Price: 1000000, Wood: api.Solid{7: 1 << 63}},
		{Id: 500, From: 0, To: 100000, Size: 77, Price: 1, Wood: block(8, 8, 8)},
		{Id: 10, From: 9, To: 10, Size: 100, Price: 90, Wood: api.Solid{3: 0xa0}},
	}
}

// many returns a season with so many orders and spares.
func many(orders, spares int) api.Season {
	var s api.Season
	for i := range orders {
		s.Orders = append(s.Orders, api.Order{Id: 1 + i, From: i, To: i, Size: 5, Wood: woodS()})
	}
	for i := range spares {
		s.Spares = append(s.Spares, api.Spare{Id: 1 + i, Size: 5, Wood: woodL()})
	}
	return s
}

// wrongSeasons are seasons that are not as the chapter says; all have the order 1 and the spare 9, where they have any.
func wrongSeasons() []api.Season {
	var l []api.Season
	add := func(change func(*api.Season)) {
		s := chapter()
		change(&s)
		l = append(l, s)
	}
	for _, x := range wrongOrders() {
		add(func(s *api.Season) { s.Orders = append(s.Orders, x) })
		add(func(s *api.Season) { s.Orders = slices.Insert(s.Orders, 0, x) })
	}
	for _, x := range []api.Spare{{}, {Id: 0, Size: 100, Wood: woodL()}, {Id: -1, Size: 100, Wood: woodL()}, {Id: 1000001, Size: 100, Wood: woodL()}, {Id: 7, Size: 0, Wood: woodL()}, {Id: 7, Size: -1, Wood: woodL()}, {Id: 7, Size: 1000001, Wood: woodL()}, {Id: 7, Size: 100}, {Id: 9, Size: 100, Wood: woodL()}, {Id: 9, Size: 5, Wood: woodS()}, {Id: math.MaxInt, Size: math.MinInt, Wood: woodL()}} {
		add(func(s *api.Season) { s.Spares = append(s.Spares, x) })
		add(func(s *api.Season) { s.Spares = slices.Insert(s.Spares, 0, x) })
	}
	for _, rate := range []int{-1, 1001, math.MinInt, math.MaxInt} {
		add(func(s *api.Season) { s.Rate = rate })
	}
	add(func(s *api.Season) { s.Orders[4].Id = 1 })
	add(func(s *api.Season) { s.Orders = append(s.Orders, s.Orders[2]) })
	add(func(s *api.Season) { s.Orders = append(s.Orders, many(41, 0).Orders[5:]...) })
	return append(l, many(41, 9), many(40, 21), many(500, 9), many(0, 21), many(41, 21))
}
