package caliper_test

import (
	"math"
	"math/rand/v2"
	"slices"
	"testing"

	"strickle/api"
	"strickle/caliper"
	"strickle/solid"
)

func TestH7CheckProbes(t *testing.T) {
	eight := slices.Repeat([]api.Probe{probe("1", 1)}, 8)
	for _, l := range [][]api.Probe{nil, {}, probes(), eight, {probe("0.0.0.0.0.0.0.1", 1000)}, {{Cells: block(8, 8, 8), Cost: 1}}} {
		if e := caliper.CheckProbes(l); e != api.OK {
			t.Errorf("CheckProbes(%v): error %d", l, e)
		}
	}
	for _, wrong := range []api.Probe{{}, probe("0", 1), probe("1", 0), probe("1", -1), probe("1", 1001), probe("1", math.MinInt), probe("1", math.MaxInt)} {
		for i := range 8 {
			l := slices.Clone(eight)
			l[i] = wrong
			if e := caliper.CheckProbes(l); e != api.ErrArg {
				t.Errorf("CheckProbes(%v): error %d", l, e)
			}
			if e := caliper.CheckProbes(append(l, wrong)); e != api.ErrLimit {
				t.Errorf("CheckProbes(%v and one more): error %d", l, e)
			}
		}
	}
	if e := caliper.CheckProbes(append(eight, probe("1", 1))); e != api.ErrLimit {
		t.Errorf("CheckProbes of 9: error %d", e)
	}
}

func TestH7Can(t *testing.T) {
	times := map[bool]int{}
	for _, q := range questions(100) {
		m := modelOf(q)
		for _, found := range q.allFindings() {
			want := len(m.behind(found)) > 0
			times[want]++
			if can, e := caliper.Can(q.wood, q.probes, found); can != want || e != api.OK {
				t.Fatalf("Can(%v, %v): %v, error %d", q, found, can, e)
			}
		}
	}
	if times[true] < 1000 || times[false] < 1000 {
		t.Errorf("there can be findings, or not: %v", times)
	}
}

func TestH7Behind(t *testing.T) {
	for _, q := range questions(100) {
		m := modelOf(q)
		for _, found := range q.allFindings() {
			l := m.behind(found)
			s, e := caliper.Behind(q.wood, q.probes, found)
			if len(l) == 0 {
				if s != (api.Solid{}) || e != api.ErrNone {
					t.Fatalf("Behind(%v, %v): %v, error %d", q, found, s, e)
				}
				continue
			}
			if e != api.OK || !slices.Contains(l, s) || slices.ContainsFunc(l, func(x api.Solid) bool { return !hasAll(x, s) }) {
				t.Fatalf("Behind(%v, %v): %v, error %d", q, found, s, e)
			}
		}
	}
	// More than 64 open cells.
	w := api.Wood{Sure: shape("1"), Maybe: block(8, 8, 8)}
	if s, e := caliper.Behind(w, []api.Probe{probe("6", 1), probe("0.0.0.1", 1)}, []int{1, 2}); s != shape("7") || e != api.OK {
		t.Errorf("Behind: %v, error %d", s, e)
	}
}

// wrongFindings are lists that are no findings of three probes.
func wrongFindings() [][]int {
	return [][]int{nil, {0}, {0, 0}, {0, 0, 0, 0}, {0, 0, 3}, {3, 0, 0}, {0, -1, 0}, {0, 0, 256}, {257, 0, 0}, {0, math.MinInt, 0}, {0, 0, math.MaxInt}, {0, 0, 1 << 32}}
}

// P8.1: findings that are not as the chapter says are refused.
func TestP81WrongFindings(t *testing.T) {
	for _, found := range wrongFindings() {
		can, e := caliper.Can(wood(), probes(), found)
		s, f := caliper.Behind(wood(), probes(), found)
		if can || s != (api.Solid{}) || e != api.ErrArg || f != api.ErrArg {
			t.Errorf("Can(%v): %v, error %d, Behind: %v, error %d", found, can, e, s, f)
		}
		judged, e := caliper.Judged(wood(), probes(), found, nil)
		ok, f := caliper.Decides(wood(), probes(), found, nil)
		if len(judged) != 0 || ok || e != api.ErrArg || f != api.ErrArg {
			t.Errorf("Judged(%v): %v, error %d, Decides: %v, error %d", found, judged, e, ok, f)
		}
	}
	if can, e := caliper.Can(wood(), nil, nil); !can || e != api.OK {
		t.Errorf("Can without probes: %v, error %d", can, e)
	}
}

func TestH8Judged(t *testing.T) {
	times := [4]int{}
	for _, q := range questions(100) {
		m := modelOf(q)
		for _, found := range q.allFindings() {
			l := m.behind(found)
			some, e := caliper.Judged(q.wood, q.probes, found, q.orders)
			if len(l) == 0 {
				if len(some) != 0 || e != api.ErrNone {
					t.Fatalf("Judged(%v, %v): %v, error %d", q, found, some, e)
				}
				continue
			}
			var want []uint8
			for _, order := range q.orders {
				want = append(want, judged(l, order))
				times[judged(l, order)]++
			}
			if !slices.Equal(some, want) || e != api.OK {
				t.Fatalf("Judged(%v, %v): %v, error %d, want %v", q, found, some, e, want)
			}
		}
	}
	if slices.Min(times[1:]) < 300 {
		t.Errorf("surely, never and perhaps: %v times", times[1:])
	}
}

func TestH8Decides(t *testing.T) {
	times := map[bool]int{}
	for _, q := range questions(100) {
		m := modelOf(q)
		for _, found := range q.allFindings() {
			l := m.behind(found)
			want, f := false, api.ErrNone
			if len(l) > 0 {
				want, f = m.decided(l), api.OK
				times[want]++
			}
			if ok, e := caliper.Decides(q.wood, q.probes, found, q.orders); ok != want || e != f {
				t.Fatalf("Decides(%v, %v): %v, error %d, want %v, error %d", q, found, ok, e, want, f)
			}
		}
	}
	if times[true] < 300 || times[false] < 300 {
		t.Errorf("decided or not: %v", times)
	}
}

// P8.1: judged with many needs and probes: what truths by chance say agrees, and what is judged surely or never is shown by all of them.
func TestH8JudgedLarge(t *testing.T) {
	r := rand.New(rand.NewPCG(8, 8))
	for _, q := range large(4) {
		for range 10 {
			s := q.wood.Sure
			for _, c := range solid.Cells(q.wood.Maybe) {
				if r.IntN(8) > 0 {
					s = solid.Join(s, of([]api.Cell{c}))
				}
			}
			found := q.none()
			for i, p := range q.probes {
				if r.IntN(2) == 0 {
					continue
				}
				found[i] = 2
				if hasAll(s, p.Cells) {
					found[i] = 1
				}
			}
			some, e := caliper.Judged(q.wood, q.probes, found, q.orders)
			least, f := caliper.Behind(q.wood, q.probes, found)
			if e != api.OK || f != api.OK {
				t.Fatalf("Judged(%v, %v): error %d, Behind: error %d", q, found, e, f)
			}
			for i, order := range q.orders {
				// The least truth serves what all do; some truth serves what the least one with one place of the order does.
				want := api.ServesNever
				for _, place := range needs(q.wood, order) {
					if place = solid.Join(least, place); q.agrees(place, found) {
						want = api.ServesPerhaps
					}
				}
				if fits(least, order) {
					want = api.ServesSure
				}
				if some[i] != want || want == api.ServesNever && fits(s, order) || want == api.ServesSure && !fits(s, order) {
					t.Fatalf("Judged(%v, %v): %v, want %d of the order %d", q, found, some, want, i)
				}
			}
		}
	}
}

// P8.4: for each truth there are just one answer to each probe, which can be, and with the true answers it stays a truth behind the findings. With an answer more there are no more truths; what was decided stays so.
func TestP84(t *testing.T) {
	for _, q := range questions(60) {
		m := modelOf(q)
		for _, found := range q.allFindings() {
			can, e := caliper.Can(q.wood, q.probes, found)
			decided, _ := caliper.Decides(q.wood, q.probes, found, q.orders)
			if e != api.OK {
				t.Fatalf("Can(%v, %v): error %d", q, found, e)
			}
			for i := range q.probes {
				if found[i] != 0 {
					continue
				}
				sum := 0
				for n := 1; n <= 2; n++ {
					next := with(found, i, n)
					l := m.behind(next)
					sum += len(l)
					more, _ := caliper.Can(q.wood, q.probes, next)
					is, _ := caliper.Decides(q.wood, q.probes, next, q.orders)
					if more != (len(l) > 0) || more && !can || more && decided && !is {
						t.Fatalf("%v: %v can be: %v, decides: %v, but %v: %v, %v", q, found, can, decided, next, more, is)
					}
				}
				if sum != len(m.behind(found)) {
					t.Fatalf("%v: behind %v are %d truths, with an answer of %d more %d", q, found, len(m.behind(found)), i, sum)
				}
			}
		}
	}
}
