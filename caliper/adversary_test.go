package caliper_test

import (
	"math"
	"math/rand/v2"
	"slices"
	"testing"

	"strickle/api"
	"strickle/caliper"
)

func TestH10Adversary(t *testing.T) {
	for _, q := range questions(150) {
		m := modelOf(q)
		cost := m.cost(q.none())
		states, e := caliper.Adversary(q.wood, q.probes, q.orders)
		want := min(cost, 100000)
		if e != api.OK || !m.isAdversary(states, want) || cost == 0 && len(states) > 0 {
			t.Fatalf("Adversary(%v): %v, error %d, want one for %d", q, states, e, want)
		}
		if cost > 0 && (!slices.Equal(numbers(states[0].Found), q.none()) || states[0].Cost != want) {
			t.Fatalf("Adversary(%v): %v begins otherwise than with %d", q, states, want)
		}
	}
}

// changedStates returns an adversary with some changes.
func changedStates(r *rand.Rand, l []api.State) []api.State {
	var states []api.State
	for _, x := range l {
		states = append(states, api.State{Found: slices.Clone(x.Found), Cost: x.Cost})
	}
	for range r.IntN(3) {
		if len(states) == 0 {
			states = append(states, state(1, 0, 0, 0))
		}
		i := r.IntN(len(states))
		x := &states[i]
		switch r.IntN(8) {
		case 0:
			x.Cost += pick(r, -1, 1, 2)
		case 1:
			x.Cost = pick(r, 0, -1, 1, 2, 100000, 100001, math.MinInt, math.MaxInt)
		case 2:
			states = without(states, i)
		case 3:
			if len(x.Found) > 0 {
				x.Found[r.IntN(len(x.Found))] = pick[uint8](r, 0, 1, 2, 3, 255)
			}
		case 4:
			x.Found = append(x.Found, 0)
		case 5:
			j := r.IntN(len(states))
			states[i], states[j] = states[j], states[i]
		case 6:
			states = slices.Insert(states, i, *x)
		case 7:
			x.Cost = max(1, x.Cost-r.IntN(5))
		}
	}
	return states
}

// thinned returns an adversary that still holds, by the chapter's words, without some of its states, and with lesser Costs.
func (m *model) thinned(r *rand.Rand, l []api.State) []api.State {
	for range 10 {
		if len(l) == 0 {
			break
		}
		i := r.IntN(len(l))
		less := without(l, i)
		if r.IntN(2) == 0 {
			less = slices.Clone(l)
			less[i].Cost--
		}
		if m.isAdversary(less, 0) {
			l = less
		}
	}
	return l
}

func TestH10CheckAdversary(t *testing.T) {
	r := rand.New(rand.NewPCG(10, 10))
	times := map[bool]int{}
	for _, q := range questions(100) {
		m := modelOf(q)
		cost := min(m.cost(q.none()), 100000)
		states, _ := caliper.Adversary(q.wood, q.probes, q.orders)
		for range 30 {
			some := changedStates(r, m.thinned(r, states))
			shown := pick(r, cost, cost, cost+1, cost-1, 0, -1, 1, math.MaxInt, math.MinInt)
			want := m.isAdversary(some, shown)
			times[want && len(some) > 0]++
			if ok, e := caliper.CheckAdversary(q.wood, q.probes, q.orders, some, shown); ok != want || e != api.OK {
				t.Fatalf("CheckAdversary(%v, %v, %d): %v, error %d, want %v", q, some, shown, ok, e, want)
			}
		}
	}
	if times[true] < 300 || times[false] < 300 {
		t.Errorf("adversaries that hold, or not: %v", times)
	}
}

// The chapter's adversary with one thing changed, and others.
func TestH10CheckAdversaryExamples(t *testing.T) {
	m := modelOf(chapter())
	for _, x := range []struct {
		cost int
		l    []api.State
		want bool
	}{
		{5, adversary(), true},
		{4, adversary(), true},
		{6, adversary(), false},
		{0, adversary(), true},
		{0, nil, true},
		{-1, nil, true},
		{math.MinInt, nil, true},
		{1, nil, false},
		{math.MaxInt, adversary(), false},
		{5, []api.State{state(5, 0, 0, 0), state(2, 0, 2, 0), state(3, 2, 0, 0)}, false},
		{3, []api.State{state(3, 0, 0, 0), state(1, 2, 0, 0)}, true},
		{1, []api.State{state(1, 0, 0, 0)}, true},
		{2, []api.State{state(2, 0, 0, 0)}, true},
		{3, []api.State{state(3, 0, 0, 0)}, false},
		{0, []api.State{state(1, 2, 0, 0)}, true},
		{-5, []api.State{state(1, 2, 0, 0)}, true},
		{1, []api.State{state(1, 2, 0, 0)}, false},
		{0, []api.State{state(1, 1, 0, 0)}, false},                    // decided
		{0, []api.State{state(1, 2, 0, 1)}, false},                    // cannot be
		{0, []api.State{state(1, 2, 2, 0)}, false},                    // decided
		{0, []api.State{state(0, 0, 0, 0)}, false},                    // no Cost
		{0, []api.State{state(100001, 0, 0, 0)}, false},               // no Cost
		{0, []api.State{state(1, 0, 0)}, false},                       // no findings
		{0, []api.State{state(1, 0, 0, 3)}, false},                    // no findings
		{0, []api.State{state(1, 0, 0, 0), state(1, 0, 0, 0)}, false}, // not ascending
		{0, []api.State{state(1, 0, 0, 2), state(1, 0, 0, 0)}, false}, // not ascending
		{0, []api.State{state(1, 0, 0, 0), state(1, 0, 0, 2)}, true},
		{1, []api.State{state(1, 0, 0, 0), {}}, false},
	} {
		if m.isAdversary(x.l, x.cost) != x.want {
			t.Errorf("%v for %d is not %v", x.l, x.cost, x.want)
		}
		if ok, e := caliper.CheckAdversary(wood(), probes(), []api.Solid{hook()}, x.l, x.cost); ok != x.want || e != api.OK {
			t.Errorf("CheckAdversary(%v, %d): %v, error %d", x.l, x.cost, ok, e)
		}
	}
}

// Without probes there is one state, in which none was asked.
func TestH10WithoutProbes(t *testing.T) {
	orders := []api.Solid{hook()}
	states, e := caliper.Adversary(wood(), nil, orders)
	if len(states) != 1 || len(states[0].Found) != 0 || states[0].Cost != 100000 || e != api.OK {
		t.Errorf("Adversary: %v, error %d", states, e)
	}
	for cost, want := range map[int]bool{100000: true, 1: true, 0: true, 100001: false} {
		if ok, e := caliper.CheckAdversary(wood(), nil, orders, []api.State{{Cost: 100000}}, cost); ok != want || e != api.OK {
			t.Errorf("CheckAdversary for %d: %v, error %d", cost, ok, e)
		}
	}
}

func TestH10CheckAdversaryLimit(t *testing.T) {
	for n, want := range map[int]api.Errno{6561: api.OK, 6562: api.ErrLimit, 20000: api.ErrLimit} {
		if ok, e := caliper.CheckAdversary(wood(), probes(), []api.Solid{hook()}, make([]api.State, n), 0); ok || e != want {
			t.Errorf("CheckAdversary of %d states: %v, error %d", n, ok, e)
		}
	}
}

// P8.3: CheckStrategy accepts what Strategy returns, for the cost, and CheckAdversary what Adversary returns. If CheckStrategy accepts some list for a cost, CheckAdversary accepts none for a greater cost. If there is no strategy, it accepts lists for every cost of at most 100000.
func TestP83(t *testing.T) {
	r := rand.New(rand.NewPCG(8, 3))
	undecided := 0
	for _, q := range append(questions(120), large(3)...) {
		cost, ok := costed(t, q)
		states, _ := caliper.Adversary(q.wood, q.probes, q.orders)
		forks, _ := caliper.Strategy(q.wood, q.probes, q.orders)
		if !ok {
			undecided++
			for _, shown := range []int{100000, 99999, 8000, 1, 0, -1} {
				if ok, e := caliper.CheckAdversary(q.wood, q.probes, q.orders, states, shown); !ok || e != api.OK {
					t.Fatalf("CheckAdversary(%v, %v, %d): %v, error %d", q, states, shown, ok, e)
				}
			}
			forks = nil
		}
		for range 5 {
			some := changed(r, forks)
			for paid := cost - 2; paid <= cost+1; paid++ {
				if is, _ := caliper.CheckStrategy(q.wood, q.probes, q.orders, some, paid); is && (paid < cost || !ok) {
					t.Fatalf("CheckStrategy(%v, %v, %d), but the cost is %d, %v", q, some, paid, cost, ok)
				}
			}
			more := changedStates(r, states)
			for shown := cost + 1; shown <= cost+3; shown++ {
				if is, _ := caliper.CheckAdversary(q.wood, q.probes, q.orders, more, shown); is {
					t.Fatalf("CheckAdversary(%v, %v, %d), but the cost is %d", q, more, shown, cost)
				}
			}
		}
	}
	if undecided < 20 {
		t.Errorf("only %d questions that no strategy decides", undecided)
	}
}
