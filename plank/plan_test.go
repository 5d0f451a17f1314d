package plank_test

import (
	"math"
	"math/rand/v2"
	"slices"
	"testing"

	"strickle/api"
	"strickle/plank"
)

// with returns the saw S after a change.
func with(change func(s *api.Saw)) api.Saw {
	s := sawS()
	change(&s)
	return s
}

// many returns a saw of so many kinds of 1 x 1.
func many(n int) api.Saw {
	var s api.Saw
	for i := range n {
		s.Kinds = append(s.Kinds, api.Kind{Id: i + 1, W: 1, H: 1, Worth: i})
	}
	return s
}

// wrongSaws are saws that are none, with their errors.
func wrongSaws() map[api.Errno][]api.Saw {
	l := map[api.Errno][]api.Saw{
		api.ErrLimit: {many(13), many(100), {Kinds: make([]api.Kind, 13)}, {Kinds: make([]api.Kind, 13), Kerf: -1}},
		api.ErrArg:   {{Kinds: make([]api.Kind, 1)}, {Kinds: make([]api.Kind, 12)}},
	}
	for _, n := range []int{-1, 3, math.MinInt, math.MaxInt} {
		l[api.ErrArg] = append(l[api.ErrArg], api.Saw{Kerf: n}, with(func(s *api.Saw) { s.Kerf = n }))
	}
	for i := range 3 {
		for _, n := range []int{0, -1, 17, math.MinInt, math.MaxInt} {
			l[api.ErrArg] = append(l[api.ErrArg], with(func(s *api.Saw) { s.Kinds[i].W = n }), with(func(s *api.Saw) { s.Kinds[i].H = n }))
		}
		for _, n := range []int{0, -1, 1000001, math.MinInt, math.MaxInt} {
			l[api.ErrArg] = append(l[api.ErrArg], with(func(s *api.Saw) { s.Kinds[i].Id = n }))
		}
		for _, n := range []int{-1, 1000001, math.MinInt, math.MaxInt} {
			l[api.ErrArg] = append(l[api.ErrArg], with(func(s *api.Saw) { s.Kinds[i].Worth = n }))
		}
		l[api.ErrArg] = append(l[api.ErrArg], with(func(s *api.Saw) { s.Kinds[i].Id = s.Kinds[(i+1)%3].Id }))
	}
	return l
}

func TestE1CheckSaw(t *testing.T) {
	for _, s := range append(samples(100, 12, 16, api.MaxWorth), many(12), full(),
		api.Saw{Kinds: []api.Kind{{Id: 1, W: 1, H: 1}}},
		api.Saw{Kinds: []api.Kind{{Id: 1000000, W: 16, H: 16, Worth: 1000000, Turn: true}}, Kerf: 2},
		// Only the Ids have to differ.
		api.Saw{Kinds: []api.Kind{{Id: 2, W: 1, H: 3, Worth: 5}, {Id: 1, W: 1, H: 3, Worth: 5}}},
	) {
		if e := plank.CheckSaw(s); e != api.OK {
			t.Errorf("CheckSaw(%v): error %d", s, e)
		}
	}
	for want, l := range wrongSaws() {
		for _, s := range l {
			if e := plank.CheckSaw(s); e != want {
				t.Errorf("CheckSaw(%v): error %d, want %d", s, e, want)
			}
		}
	}
}

// check holds CheckPlan, Used, Waste and Depth against what a list comes to.
func check(t *testing.T, s api.Saw, w, h int, p []api.Node) bool {
	t.Helper()
	x, ok := look(s, w, h, p)
	want := api.OK
	if !ok {
		want = api.ErrSaw
		x.used = nil
	}
	if worth, is, e := plank.CheckPlan(s, w, h, p); worth != x.worth || is != ok || e != api.OK {
		t.Fatalf("CheckPlan(%v, %d, %d, %v): %d, %v, error %d, want %d, %v", s, w, h, p, worth, is, e, x.worth, ok)
	}
	if u, e := plank.Used(s, w, h, p); !slices.Equal(u, x.used) || e != want {
		t.Fatalf("Used(%v, %d, %d, %v): %v, error %d, want %v, error %d", s, w, h, p, u, e, x.used, want)
	}
	if n, e := plank.Waste(s, w, h, p); n != x.waste || e != want {
		t.Fatalf("Waste(%v, %d, %d, %v): %d, error %d, want %d, error %d", s, w, h, p, n, e, x.waste, want)
	}
	if n, e := plank.Depth(s, w, h, p); n != x.depth || e != want {
		t.Fatalf("Depth(%v, %d, %d, %v): %d, error %d, want %d, error %d", s, w, h, p, n, e, x.depth, want)
	}
	return ok
}

// small returns boards all of whose plans can be looked at.
func small() [][2]int {
	return [][2]int{{1, 1}, {2, 1}, {1, 2}, {3, 1}, {1, 4}, {2, 2}, {3, 2}, {2, 3}}
}

// tiny returns saws of small planks.
func tiny() []api.Saw {
	l := samples(30, 3, 3, 6)
	for kerf := range 3 {
		l = append(l, api.Saw{Kinds: []api.Kind{{Id: 5, W: 2, H: 1, Worth: 3, Turn: true}, {Id: 4, W: 1, H: 1, Worth: 1, Turn: true}}, Kerf: kerf})
	}
	return l
}

// key returns a list as a string.
func key(p []api.Node) string {
	var l []byte
	for _, n := range p {
		l = append(l, n.Kind, byte(n.At))
	}
	return string(l)
}

// E1, E4: all plans of small boards are plans, with their worth, waste and depth.
func TestE1AllPlans(t *testing.T) {
	plans := 0
	for _, s := range tiny() {
		for _, b := range small() {
			for _, p := range all(s, b[0], b[1]) {
				plans++
				if !check(t, s, b[0], b[1], p) {
					t.Fatalf("look(%v, %v, %v): none", s, b, p)
				}
			}
		}
	}
	if plans < 10000 {
		t.Errorf("only %d plans", plans)
	}
}

// lists yields all lists of at most some nodes of an alphabet.
func lists(alphabet []api.Node, most int, yield func([]api.Node)) {
	var grow func(p []api.Node)
	grow = func(p []api.Node) {
		yield(p)
		if len(p) == most {
			return
		}
		for _, n := range alphabet {
			grow(append(slices.Clip(p), n))
		}
	}
	grow(nil)
}

// E1: of all short lists, the plans are those that are in the list of all plans.
func TestE1AllLists(t *testing.T) {
	alphabet := []api.Node{waste(), plain(0), turned(0), plain(1), turned(1), across(1), across(2), along(1), along(2)}
	plans, others := 0, 0
	for kerf := range 3 {
		for i, b := range [][2]int{{3, 2}, {2, 2}, {1, 3}, {1, 1}} {
			s := api.Saw{Kinds: []api.Kind{{Id: 5, W: 2, H: 1, Worth: 3, Turn: true}, {Id: 4, W: 1, H: 2, Worth: 1}}, Kerf: kerf}
			set := map[string]bool{}
			for _, p := range all(s, b[0], b[1]) {
				set[key(p)] = true
			}
			lists(alphabet, 5-min(i, 1), func(p []api.Node) {
				_, ok, e := plank.CheckPlan(s, b[0], b[1], p)
				if ok != set[key(p)] || e != api.OK {
					t.Fatalf("CheckPlan(%v, %v, %v): %v, error %d", s, b, p, ok, e)
				}
				if ok {
					plans++
				} else {
					others++
				}
			})
		}
	}
	if plans < 150 || others < 100000 {
		t.Errorf("only %d plans, %d others", plans, others)
	}
}

// wrongNodes are nodes that no plan of a saw with two kinds has.
func wrongNodes() []api.Node {
	l := []api.Node{{Kind: 5}, {Kind: 6, At: 1}, {Kind: 255, At: 1}, plain(-1), turned(-1), plain(2), turned(2), plain(11), plain(12), turned(12), across(0), along(0), across(16), along(16), across(-1), along(-1)}
	for kind := range uint8(6) {
		l = append(l, api.Node{Kind: kind, At: math.MinInt}, api.Node{Kind: kind, At: math.MaxInt})
	}
	for _, at := range []int{-1, 1, 2, 256} {
		l = append(l, api.Node{Kind: api.NodeWaste, At: at})
	}
	return l
}

// E1, E4: a node that is none makes a list none, wherever it is; so does a node less or more.
func TestE1NoPlans(t *testing.T) {
	s := api.Saw{Kinds: []api.Kind{{Id: 5, W: 2, H: 3, Worth: 3}, {Id: 4, W: 1, H: 2, Worth: 1, Turn: true}}}
	plan := []api.Node{across(2), along(3), plain(0), waste(), along(2), along(1), turned(1), waste(), across(1), plain(1), plain(1)}
	if !check(t, s, 4, 4, plan) {
		t.Fatal("the plan is none")
	}
	for i := range len(plan) {
		for _, n := range wrongNodes() {
			p := slices.Clone(plan)
			p[i] = n
			if check(t, s, 4, 4, p) {
				t.Errorf("%v is a plan", p)
			}
		}
		if check(t, s, 4, 4, plan[:i]) || check(t, s, 4, 4, slices.Concat(plan[:i], plan[i+1:])) || check(t, s, 4, 4, slices.Concat(plan, plan[i:])) {
			t.Errorf("the plan without its node %d, or with more, is a plan", i)
		}
	}
	// A kind that may not be turned is none that is turned, not even if it is as wide as it is high.
	square := api.Saw{Kinds: []api.Kind{{Id: 1, W: 2, H: 2, Worth: 3}, {Id: 2, W: 2, H: 2, Worth: 4, Turn: true}}}
	for p, want := range map[api.Node]bool{plain(0): true, turned(0): false, plain(1): true, turned(1): true} {
		if check(t, square, 2, 2, []api.Node{p}) != want {
			t.Errorf("%v is a plan: %v", p, !want)
		}
	}
	long := slices.Repeat([]api.Node{across(1)}, 1000000)
	if check(t, s, 16, 16, long) || check(t, s, 16, 16, slices.Repeat([]api.Node{waste()}, 1000)) {
		t.Error("a long list is a plan")
	}
}

// E1, E4: any plans of boards of all sizes, and what is near them.
func TestE4LargePlans(t *testing.T) {
	r := rand.New(rand.NewPCG(5, 4))
	plans, others, deep := 0, 0, 0
	for _, s := range samples(60, 12, 6, api.MaxWorth) {
		for range 40 {
			w, h := 1+r.IntN(16), 1+r.IntN(16)
			p := wide(r, s, w, h)
			if !check(t, s, w, h, p) {
				t.Fatalf("%v is no plan of %d x %d", p, w, h)
			}
			if d, _ := plank.Depth(s, w, h, p); d > 8 {
				deep++
			}
			q := slices.Clone(p)
			q[r.IntN(len(q))].At += r.IntN(3) - 1
			q[r.IntN(len(q))].Kind += uint8(r.IntN(2))
			if check(t, s, w, h, q) {
				plans++
			} else {
				others++
			}
			check(t, s, h, w, p)
		}
	}
	if plans < 100 || others < 100 || deep < 100 {
		t.Errorf("only %d plans, %d others, %d deep ones", plans, others, deep)
	}
}

// E4: the longest way of all, on which each cut leaves one board.
func TestE4Depth(t *testing.T) {
	var p []api.Node
	for n := 15; n >= 1; n-- {
		p = append(p, across(n))
	}
	for n := 15; n >= 1; n-- {
		p = append(p, along(n))
	}
	s := api.Saw{Kinds: []api.Kind{{Id: 1, W: 1, H: 1, Worth: 1}}, Kerf: 1}
	if n, e := plank.Depth(s, 16, 16, append(p, plain(0))); n != 30 || e != api.OK {
		t.Errorf("Depth: %d, error %d", n, e)
	}
	check(t, s, 16, 16, append(p, plain(0)))
}

// E2, E3: the greatest worth of all plans of small boards is that of Best, of Plan and of Values.
func TestE2AllPlans(t *testing.T) {
	for _, s := range tiny() {
		for _, b := range small() {
			want := 0
			for _, p := range all(s, b[0], b[1]) {
				x, _ := look(s, b[0], b[1], p)
				want = max(want, x.worth)
			}
			if n, e := plank.Best(s, b[0], b[1]); n != want || e != api.OK {
				t.Errorf("Best(%v, %v): %d, error %d, want %d", s, b, n, e, want)
			}
		}
	}
}

// prove holds Best, Plan and Values of a board against each other, which shows all of them to be right.
func prove(t *testing.T, s api.Saw, w, h int) int {
	t.Helper()
	n, e := plank.Best(s, w, h)
	p, f := plank.Plan(s, w, h)
	v, g := plank.Values(s, w, h)
	if e != api.OK || f != api.OK || g != api.OK {
		t.Fatalf("Best, Plan, Values(%v, %d, %d): errors %d, %d, %d", s, w, h, e, f, g)
	}
	if x, ok := look(s, w, h, p); !ok || x.worth != n {
		t.Fatalf("Plan(%v, %d, %d): %v, of worth %d, want %d", s, w, h, p, x.worth, n)
	}
	if !isValuation(s, w, h, v) || v[w-1][h-1] != n {
		t.Fatalf("Values(%v, %d, %d): %v, want %d at the end", s, w, h, v, n)
	}
	if ok, e := plank.CheckValues(s, w, h, v); !ok || e != api.OK {
		t.Fatalf("CheckValues(%v, %d, %d) of Values: %v, error %d", s, w, h, ok, e)
	}
	return n
}

// P5.2 and T5: the greatest worth is that of a plan, and the number of a valuation; no plan has a greater worth.
func TestT5(t *testing.T) {
	r := rand.New(rand.NewPCG(5, 2))
	worths := map[int]bool{}
	for _, s := range append(samples(100, 12, 16, api.MaxWorth), samples(100, 5, 5, 20)...) {
		for range 3 {
			w, h := 1+r.IntN(16), 1+r.IntN(16)
			n := prove(t, s, w, h)
			worths[n] = true
			for range 20 {
				if x, _ := look(s, w, h, wide(r, s, w, h)); x.worth > n {
					t.Fatalf("Best(%v, %d, %d): %d, but a plan has %d", s, w, h, n, x.worth)
				}
			}
		}
	}
	if len(worths) < 200 {
		t.Errorf("only %d worths", len(worths))
	}
	// The greatest worth of all.
	if n := prove(t, api.Saw{Kinds: []api.Kind{{Id: 1, W: 1, H: 1, Worth: api.MaxWorth}}}, 16, 16); n != 256*api.MaxWorth {
		t.Errorf("Best: %d", n)
	}
	if n := prove(t, full(), 16, 16); n == 0 {
		t.Errorf("Best: %d", n)
	}
}

// E3: each number of Values is the greatest worth of its board, and with any lesser one there is no valuation.
func TestE3Values(t *testing.T) {
	for _, s := range samples(40, 5, 5, 9) {
		v, e := plank.Values(s, 7, 5)
		if e != api.OK {
			t.Fatalf("Values(%v): error %d", s, e)
		}
		for i := range 7 {
			for j := range 5 {
				if n := best(s, i+1, j+1); v[i][j] != n {
					t.Errorf("Values(%v): %d for %d x %d, want %d", s, v[i][j], i+1, j+1, n)
				}
				v[i][j]--
				if ok, e := plank.CheckValues(s, 7, 5, v); ok || e != api.OK {
					t.Errorf("CheckValues(%v, %v): %v, error %d", s, v, ok, e)
				}
				v[i][j]++
			}
		}
	}
}

// E3: CheckValues is what the definition says, for numbers near those of valuations.
func TestE3CheckValues(t *testing.T) {
	r := rand.New(rand.NewPCG(5, 3))
	some, others := 0, 0
	for _, s := range samples(200, 4, 4, 9) {
		w, h := 1+r.IntN(6), 1+r.IntN(6)
		for range 20 {
			v, _ := plank.Values(s, w, h)
			more, scale := r.IntN(3), 1+r.IntN(2)
			for i := range v {
				for j := range v[i] {
					v[i][j] = scale*v[i][j] + more*(i+1)*(j+1)
				}
			}
			v[r.IntN(w)][r.IntN(h)] += r.IntN(5) - 2
			want := isValuation(s, w, h, v)
			if ok, e := plank.CheckValues(s, w, h, v); ok != want || e != api.OK {
				t.Fatalf("CheckValues(%v, %d, %d, %v): %v, error %d", s, w, h, v, ok, e)
			}
			if want {
				some++
				if n := best(s, w, h); n > v[w-1][h-1] {
					t.Fatalf("Best(%v, %d, %d): %d, but a valuation has %d", s, w, h, n, v[w-1][h-1])
				}
			} else {
				others++
			}
		}
	}
	if some < 500 || others < 500 {
		t.Errorf("only %d valuations, %d others", some, others)
	}
}

// E3: lists of other lengths and numbers are no valuations.
func TestE3NoValuations(t *testing.T) {
	none := api.Saw{}
	for _, x := range []struct {
		v    [][]int
		want bool
	}{
		{[][]int{{0, 0}, {0, 0}, {0, 0}}, true}, {[][]int{{1, 2}, {2, 4}, {3, 6}}, true},
		{[][]int{{0, 0}, {0, 0}, {0, 1000000000}}, true}, {[][]int{{0, 0}, {0, 0}, {0, 1000000001}}, false},
		{[][]int{{0, 0}, {0, 0}, {0, math.MaxInt}}, false}, {[][]int{{-1, 0}, {0, 0}, {0, 0}}, false}, {[][]int{{math.MinInt, 0}, {0, 0}, {0, 0}}, false},
		{[][]int{{math.MaxInt, math.MaxInt}, {math.MaxInt, math.MaxInt}, {math.MaxInt, math.MaxInt}}, false},
		{nil, false}, {[][]int{}, false}, {[][]int{nil, nil, nil}, false}, {[][]int{{0, 0}, {0, 0}}, false}, {[][]int{{0, 0}, {0, 0}, {0, 0}, {0, 0}}, false}, {[][]int{{0, 0}, {0, 0}, {0, 0}, nil}, false},
		{[][]int{{0, 0}, {0, 0}, {0}}, false}, {[][]int{{0, 0}, {0, 0}, {0, 0, 0}}, false}, {[][]int{{0}, {0, 0}, {0, 0}}, false}, {[][]int{{0, 0, 0}, {0, 0, 0}}, false},
		{[][]int{{5, 9}, {5, 9}, {5, 9}}, false}, {[][]int{{0, 1}, {0, 0}, {0, 1}}, false}, {[][]int{{1, 0}, {2, 2}, {3, 6}}, false},
	} {
		if ok, e := plank.CheckValues(none, 3, 2, x.v); ok != x.want || e != api.OK {
			t.Errorf("CheckValues(%v): %v, error %d", x.v, ok, e)
		}
	}
	// The kerf leaves less to the second part.
	v := [][]int{{5}, {5}, {10}}
	for kerf, want := range []bool{false, true, true} {
		if ok, e := plank.CheckValues(api.Saw{Kerf: kerf}, 3, 1, v); ok != want || e != api.OK {
			t.Errorf("CheckValues with kerf %d: %v, error %d", kerf, ok, e)
		}
	}
}
