package caliper_test

import (
	"fmt"
	"math/rand/v2"
	"slices"
	"testing"

	"strickle/api"
	"strickle/caliper"
	"strickle/season"
)

// stock is a season with what is known of its spares.
type stock struct {
	season api.Season
	woods  []api.Wood
}

// with returns the season whose spares have other woods, without those that have none.
func (x stock) with(woods []api.Solid) api.Season {
	s := api.Season{Orders: slices.Clone(x.season.Orders), Rate: x.season.Rate}
	for i, y := range x.season.Spares {
		if woods[i] != (api.Solid{}) {
			s.Spares = append(s.Spares, api.Spare{Id: y.Id, Size: y.Size, Wood: woods[i]})
		}
	}
	return s
}

// all returns the seasons with each truth of each spare.
func (x stock) all() []api.Season {
	lists := [][]api.Solid{nil}
	for _, w := range x.woods {
		var longer [][]api.Solid
		for _, l := range lists {
			for _, s := range truths(w) {
				longer = append(longer, append(slices.Clone(l), s))
			}
		}
		lists = longer
	}
	var l []api.Season
	for _, woods := range lists {
		l = append(l, x.with(woods))
	}
	return l
}

// stocks returns n stocks, with at most 3 spares that have at most 3 open cells.
func stocks(n int) []stock {
	r := rand.New(rand.NewPCG(11, uint64(n)))
	var l []stock
	for range n {
		var x stock
		for i := range r.IntN(6) {
			from := r.IntN(9)
			x.season.Orders = append(x.season.Orders, api.Order{Id: i + 1, From: from, To: from + r.IntN(4), Size: 100 + r.IntN(5)/4, Price: r.IntN(9), Wood: someOrder(r, api.Wood{})})
		}
		for i := range r.IntN(4) {
			w := someWood(r, 3)
			for w.Maybe == (api.Solid{}) {
				w = someWood(r, 3)
			}
			x.woods = append(x.woods, w)
			x.season.Spares = append(x.season.Spares, api.Spare{Id: 9 - i, Size: 100, Wood: pick(r, shape("1"), api.Solid{}, w.Maybe)})
		}
		x.season.Rate = r.IntN(9)
		l = append(l, x)
	}
	return l
}

// ends returns the numbers of a stock, by the chapter's words.
func (x stock) ends() (least, greatest int) {
	var sure, maybe []api.Solid
	for _, w := range x.woods {
		sure = append(sure, w.Sure)
		maybe = append(maybe, w.Maybe)
	}
	least, _ = season.Least(x.with(maybe))
	greatest, _ = season.Least(x.with(sure))
	return least, greatest
}

func TestH11Numbers(t *testing.T) {
	apart, empty := 0, 0
	for _, x := range stocks(300) {
		a, b := x.ends()
		if least, greatest, e := caliper.Numbers(x.season, x.woods); least != a || greatest != b || e != api.OK {
			t.Fatalf("Numbers(%v): %d, %d, error %d, want %d, %d", x, least, greatest, e, a, b)
		}
		apart += min(1, b-a)
		if slices.ContainsFunc(x.woods, func(w api.Wood) bool { return w.Sure == (api.Solid{}) }) {
			empty++
		}
	}
	if apart < 20 || empty < 20 {
		t.Errorf("%d times the numbers differ, %d times a spare has nothing that is sure", apart, empty)
	}
}

func TestH11Wrong(t *testing.T) {
	right := stock{
		api.Season{Orders: []api.Order{{Id: 1, Size: 100, Wood: hook()}}, Spares: []api.Spare{{Id: 2, Size: 100}, {Id: 3, Size: 100}}},
		[]api.Wood{wood(), {Maybe: hook()}},
	}
	if least, greatest, e := caliper.Numbers(right.season, right.woods); least != 0 || greatest != 1 || e != api.OK {
		t.Errorf("Numbers(%v): %d, %d, error %d", right, least, greatest, e)
	}
	if least, greatest, e := caliper.Numbers(api.Season{}, nil); least != 0 || greatest != 0 || e != api.OK {
		t.Errorf("Numbers of nothing: %d, %d, error %d", least, greatest, e)
	}
	for _, do := range []func(*stock){
		func(x *stock) { x.woods = x.woods[:1] },
		func(x *stock) { x.woods = append(x.woods, wood()) },
		func(x *stock) { x.woods = nil },
		func(x *stock) { x.season.Spares = nil },
		func(x *stock) { x.woods[0] = api.Wood{} },
		func(x *stock) { x.woods[1] = api.Wood{} },
		func(x *stock) { x.woods[1].Sure = shape("8") },
		func(x *stock) { x.woods[0] = api.Wood{Sure: hook()} },
		func(x *stock) { x.season.Rate = -1 },
		func(x *stock) { x.season.Orders[0].Id = 0 },
		func(x *stock) { x.season.Orders[0].Wood = api.Solid{} },
		func(x *stock) { x.season.Spares[1].Id = 2 },
		func(x *stock) { x.season.Spares[0].Size = 0 },
		func(x *stock) {
			x.woods[1].Sure = api.Solid{} // a spare that is left out for the greatest number
			x.season.Spares[1].Size = 0
		},
		func(x *stock) {
			for i := range 19 {
				x.season.Spares = append(x.season.Spares, api.Spare{Id: 10 + i, Size: 100})
				x.woods = append(x.woods, api.Wood{Maybe: hook()})
			}
		},
	} {
		x := stock{api.Season{Orders: slices.Clone(right.season.Orders), Spares: slices.Clone(right.season.Spares)}, slices.Clone(right.woods)}
		do(&x)
		if least, greatest, e := caliper.Numbers(x.season, x.woods); least != 0 || greatest != 0 || e != api.ErrArg {
			t.Errorf("Numbers(%v): %d, %d, error %d", x, least, greatest, e)
		}
	}
}

// P8.5: whatever truths the spares have, the least number of new patterns lies from least to greatest; both are attained, by Maybe and by Sure.
func TestP85(t *testing.T) {
	for _, x := range stocks(60) {
		least, greatest, e := caliper.Numbers(x.season, x.woods)
		if e != api.OK {
			t.Fatalf("Numbers(%v): error %d", x, e)
		}
		var numbers []int
		for _, s := range x.all() {
			n, e := season.Least(s)
			if e != api.OK {
				t.Fatalf("Least(%v): error %d", s, e)
			}
			numbers = append(numbers, n)
		}
		if slices.Min(numbers) != least || slices.Max(numbers) != greatest {
			t.Fatalf("Numbers(%v): %d, %d, but the truths need %s", x, least, greatest, fmt.Sprint(numbers))
		}
	}
}
