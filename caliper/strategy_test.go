package caliper_test

import (
	"math"
	"math/rand/v2"
	"slices"
	"testing"

	"strickle/api"
	"strickle/caliper"
)

func TestH9Cost(t *testing.T) {
	times := map[bool]int{}
	for _, q := range questions(200) {
		want := modelOf(q).cost(q.none())
		cost, e := caliper.Cost(q.wood, q.probes, q.orders)
		if want == open {
			if cost != 0 || e != api.ErrOpen {
				t.Fatalf("Cost(%v): %d, error %d", q, cost, e)
			}
		} else if cost != want || e != api.OK {
			t.Fatalf("Cost(%v): %d, error %d, want %d", q, cost, e, want)
		}
		if want > 0 {
			times[want < open]++
		}
	}
	if times[true] < 20 || times[false] < 20 {
		t.Errorf("times that a strategy decides what is open, or none: %v", times)
	}
}

func TestH9Strategy(t *testing.T) {
	for _, q := range questions(200) {
		m := modelOf(q)
		want := m.cost(q.none())
		forks, e := caliper.Strategy(q.wood, q.probes, q.orders)
		if want == open {
			if len(forks) != 0 || e != api.ErrOpen {
				t.Fatalf("Strategy(%v): %v, error %d", q, forks, e)
			}
		} else if e != api.OK || !m.isStrategy(forks, want) || (len(forks) == 0) != (want == 0) {
			t.Fatalf("Strategy(%v): %v, error %d, want one for %d", q, forks, e, want)
		}
	}
}

// changed returns a strategy with some changes.
func changed(r *rand.Rand, forks []api.Fork) []api.Fork {
	forks = slices.Clone(forks)
	for range 1 + r.IntN(2) {
		n := pick(r, -2, -1, -1, 0, 1, 2, 3, 7, len(forks)-1, len(forks), math.MinInt, math.MaxInt)
		if len(forks) == 0 || r.IntN(6) == 0 {
			forks = append(forks, api.Fork{Probe: r.IntN(4), Yes: -1, No: -1})
		}
		i := r.IntN(len(forks))
		switch r.IntN(7) {
		case 0:
			forks[i].Probe = n
		case 1:
			forks[i].Yes = n
		case 2:
			forks[i].No = n
		case 3:
			forks[i].Yes, forks[i].No = forks[i].No, forks[i].Yes
		case 4:
			forks = slices.Delete(forks, i, len(forks))
		case 5: // one end is a fork more
			forks = append(forks, api.Fork{Probe: r.IntN(4), Yes: -1, No: -1})
			if forks[i].Yes == -1 {
				forks[i].Yes = len(forks) - 1
			} else {
				forks[i].No = len(forks) - 1
			}
		case 6: // another place in the list
			j := r.IntN(len(forks))
			forks[i], forks[j] = forks[j], forks[i]
			for k := range forks {
				for _, to := range []*int{&forks[k].Yes, &forks[k].No} {
					switch *to {
					case i:
						*to = j
					case j:
						*to = i
					}
				}
			}
		}
	}
	return forks
}

// dearer returns a strategy that decides a question, if there is one, for some cost: it asks probes by chance.
func dearer(r *rand.Rand, m *model) []api.Fork {
	var forks []api.Fork
	var grow func(found []int) int
	grow = func(found []int) int {
		if _, done := m.look(found); done {
			return -1
		}
		var left []int
		for i, n := range found {
			if n == 0 {
				left = append(left, i)
			}
		}
		if len(left) == 0 {
			return -1
		}
		at := len(forks)
		forks = append(forks, api.Fork{Probe: pick(r, left...)})
		a := grow(with(found, forks[at].Probe, 1))
		b := grow(with(found, forks[at].Probe, 2))
		forks[at].Yes, forks[at].No = a, b
		return at
	}
	grow(m.none())
	return forks
}

// check holds CheckStrategy against the chapter's words, and returns what it says.
func (m *model) check(t *testing.T, forks []api.Fork, cost int) bool {
	t.Helper()
	want := m.isStrategy(forks, cost)
	if ok, e := caliper.CheckStrategy(m.wood, m.probes, m.orders, forks, cost); ok != want || e != api.OK {
		t.Fatalf("CheckStrategy(%v, %v, %d): %v, error %d, want %v", m.question, forks, cost, ok, e, want)
	}
	return want
}

func TestH9CheckStrategy(t *testing.T) {
	r := rand.New(rand.NewPCG(9, 9))
	times := map[bool]int{}
	for _, q := range questions(150) {
		m := modelOf(q)
		forks, _ := caliper.Strategy(q.wood, q.probes, q.orders)
		for range 60 {
			some := forks
			if r.IntN(2) == 0 {
				some = dearer(r, m)
			}
			if r.IntN(3) > 0 {
				some = changed(r, some)
			}
			cost := pick(r, m.cost(q.none()), m.cost(q.none())-1, -1, 0, 1, r.IntN(20), 3000, math.MaxInt, math.MinInt)
			times[m.check(t, some, cost) && len(some) > 0]++
		}
	}
	if times[true] < 500 || times[false] < 500 {
		t.Errorf("strategies that decide, or not: %v", times)
	}
}

// All lists of at most two forks, with numbers in and out of range, and some of three.
func TestH9CheckStrategySmall(t *testing.T) {
	var all []api.Fork
	for p := -1; p <= 3; p++ {
		for y := -2; y <= 3; y++ {
			for n := -2; n <= 3; n++ {
				all = append(all, api.Fork{Probe: p, Yes: y, No: n})
			}
		}
	}
	r := rand.New(rand.NewPCG(9, 1))
	right := 0
	m := modelOf(chapter())
	m.check(t, nil, 9)
	for _, x := range all {
		m.check(t, []api.Fork{x}, 9)
		for _, y := range all {
			if r.IntN(4) == 0 && m.check(t, []api.Fork{x, y}, 9) {
				right++
			}
			z := all[r.IntN(len(all))]
			if r.IntN(8) == 0 && m.check(t, []api.Fork{x, y, z}, 9) {
				right++
			}
		}
	}
	for _, forks := range [][]api.Fork{
		strategy(),
		{{Probe: 0, Yes: -1, No: 1}, {Probe: 1, Yes: -1, No: -1}},
		{{Probe: 2, Yes: -1, No: 1}, {Probe: 0, Yes: -1, No: 2}, {Probe: 1, Yes: -1, No: -1}},
	} {
		if m.check(t, forks, 9) {
			right++
		}
	}
	if right < 3 {
		t.Errorf("only %d lists are strategies", right)
	}
}

// Each fork but the first one is named just once, by one before it: also if the same is asked on two ways.
func TestH9CheckStrategyNamed(t *testing.T) {
	row := api.Wood{Sure: shape("7"), Maybe: shape("10f")}
	q := question{row, []api.Probe{probe("100", 1), probe("8", 1), probe("101", 1)}, []api.Solid{hook(), shape("f")}}
	m := modelOf(q)
	for _, x := range []struct {
		forks []api.Fork
		want  bool
	}{
		{[]api.Fork{{Probe: 0, Yes: 1, No: 2}, {Probe: 1, Yes: -1, No: -1}, {Probe: 1, Yes: -1, No: -1}}, true},
		{[]api.Fork{{Probe: 0, Yes: 2, No: 1}, {Probe: 1, Yes: -1, No: -1}, {Probe: 1, Yes: -1, No: -1}}, true},
		{[]api.Fork{{Probe: 1, Yes: 1, No: 2}, {Probe: 0, Yes: -1, No: -1}, {Probe: 2, Yes: -1, No: -1}}, true},
		{[]api.Fork{{Probe: 0, Yes: 1, No: 1}, {Probe: 1, Yes: -1, No: -1}}, false},
		{[]api.Fork{{Probe: 0, Yes: 1, No: 1}, {Probe: 1, Yes: -1, No: -1}, {Probe: 1, Yes: -1, No: -1}}, false},
		{[]api.Fork{{Probe: 0, Yes: 1, No: 2}, {Probe: 1, Yes: -1, No: -1}, {Probe: 1, Yes: -1, No: -1}, {Probe: 1, Yes: -1, No: -1}}, false},
		{[]api.Fork{{Probe: 0, Yes: 1, No: 3}, {Probe: 1, Yes: -1, No: -1}, {Probe: 1, Yes: -1, No: -1}}, false},
		{[]api.Fork{{Probe: 0, Yes: 1, No: 0}, {Probe: 1, Yes: -1, No: -1}}, false},
		{[]api.Fork{{Probe: 0, Yes: 1, No: -1}, {Probe: 1, Yes: -1, No: -1}}, false},
		// One that goes on behind a probe of which nothing can be found but what is known.
		{[]api.Fork{{Probe: 0, Yes: 3, No: 1}, {Probe: 2, Yes: -1, No: 2}, {Probe: 1, Yes: -1, No: -1}, {Probe: 1, Yes: -1, No: -1}}, true},
		{[]api.Fork{{Probe: 0, Yes: 3, No: 2}, {Probe: 1, Yes: -1, No: -1}, {Probe: 2, Yes: -1, No: 1}, {Probe: 1, Yes: -1, No: -1}}, false},
		{[]api.Fork{{Probe: 0, Yes: 3, No: 1}, {Probe: 2, Yes: 4, No: 2}, {Probe: 1, Yes: -1, No: -1}, {Probe: 1, Yes: -1, No: -1}, {Probe: 1, Yes: -1, No: -1}}, false},
		{[]api.Fork{{Probe: 0, Yes: 3, No: 1}, {Probe: 2, Yes: -1, No: 2}, {Probe: 1, Yes: -1, No: -1}, {Probe: 1, Yes: 2, No: -1}}, false},
	} {
		if m.check(t, x.forks, 9) != x.want {
			t.Errorf("%v is not %v", x.forks, x.want)
		}
	}
	if cost, ok := costed(t, q); cost != 2 || !ok {
		t.Errorf("Cost: %d, %v", cost, ok)
	}
}

// A list of at most 256 forks is looked at; a strategy of 8 probes has at most 255.
func TestH9CheckStrategyLimit(t *testing.T) {
	for n, want := range map[int]api.Errno{255: api.OK, 256: api.OK, 257: api.ErrLimit, 10000: api.ErrLimit} {
		if ok, e := caliper.CheckStrategy(wood(), probes(), []api.Solid{hook()}, make([]api.Fork, n), 9); ok || e != want {
			t.Errorf("CheckStrategy of %d forks: %v, error %d", n, ok, e)
		}
	}
	// With 8 probes: a strategy decides for its cost, and for no lesser one.
	for _, q := range large(12) {
		forks, e := caliper.Strategy(q.wood, q.probes, q.orders)
		if e != api.OK {
			continue
		}
		cost, _ := caliper.Cost(q.wood, q.probes, q.orders)
		for extra, want := range map[int]bool{-1: false, 0: true, 1: true} {
			if ok, e := caliper.CheckStrategy(q.wood, q.probes, q.orders, forks, cost+extra); ok != want || e != api.OK {
				t.Errorf("CheckStrategy(%v, %v, %d): %v, error %d", q, forks, cost+extra, ok, e)
			}
		}
	}
}

// A cost below 0 is that of no strategy, also of the empty one.
func TestH9CheckStrategyEmpty(t *testing.T) {
	for cost, want := range map[int]bool{math.MinInt: false, -1: false, 0: true, 1: true, math.MaxInt: true} {
		if ok, e := caliper.CheckStrategy(wood(), probes(), nil, nil, cost); ok != want || e != api.OK {
			t.Errorf("CheckStrategy of no orders for %d: %v, error %d", cost, ok, e)
		}
		if ok, e := caliper.CheckStrategy(wood(), probes(), []api.Solid{shape("7")}, []api.Fork{}, cost); ok != want || e != api.OK {
			t.Errorf("CheckStrategy of a sure order for %d: %v, error %d", cost, ok, e)
		}
		if ok, e := caliper.CheckStrategy(wood(), probes(), []api.Solid{hook()}, nil, cost); ok || e != api.OK {
			t.Errorf("CheckStrategy that asks nothing for %d: %v, error %d", cost, ok, e)
		}
	}
}

// P8.8: with a probe more the cost of a question does not become greater; with an order more it does not become less.
func TestP88(t *testing.T) {
	r := rand.New(rand.NewPCG(8, 88))
	less, more := 0, 0
	for _, q := range append(questions(200), large(2)...) {
		cost, _ := costed(t, q)
		if len(q.probes) < 8 {
			p := q
			p.probes = slices.Insert(slices.Clone(q.probes), r.IntN(len(q.probes)+1), someProbe(r, q.wood))
			n, _ := costed(t, p)
			if n > cost {
				t.Fatalf("%v costs %d, %v costs %d", q, cost, p, n)
			}
			if n < cost {
				less++
			}
		}
		if len(q.orders) < 6 {
			p := q
			p.orders = slices.Insert(slices.Clone(q.orders), r.IntN(len(q.orders)+1), someOrder(r, q.wood))
			n, _ := costed(t, p)
			if n < cost {
				t.Fatalf("%v costs %d, %v costs %d", q, cost, p, n)
			}
			if n > cost {
				more++
			}
		}
		for i := range q.probes {
			p := q
			p.probes = without(q.probes, i)
			if n, _ := costed(t, p); n < cost {
				t.Fatalf("%v costs %d, %v costs %d", q, cost, p, n)
			}
		}
	}
	if less < 10 || more < 10 {
		t.Errorf("%d costs become less, %d greater", less, more)
	}
}
