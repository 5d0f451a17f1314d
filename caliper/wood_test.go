package caliper_test

import (
	"slices"
	"testing"

	"strickle/api"
	"strickle/caliper"
	"strickle/solid"
)

func TestH5Serves(t *testing.T) {
	times := [4]int{}
	for _, q := range questions(150) {
		some := truths(q.wood)
		for _, order := range append(shapes(), q.orders...) {
			want := judged(some, order)
			times[want]++
			if n, e := caliper.Serves(q.wood, order); n != want || e != api.OK {
				t.Fatalf("Serves(%v, %v): %d, error %d, want %d", q.wood, order, n, e, want)
			}
		}
	}
	if slices.Min(times[1:]) < 100 {
		t.Errorf("surely, never and perhaps: %v times", times[1:])
	}
	// More than 64 open cells, an empty wood, and one without open cells.
	for _, x := range []struct {
		w     api.Wood
		order api.Solid
		want  uint8
	}{
		{api.Wood{Maybe: block(8, 8, 8)}, hook(), api.ServesPerhaps},
		{api.Wood{Sure: hook(), Maybe: block(8, 8, 8)}, hook(), api.ServesSure},
		{api.Wood{Maybe: block(8, 8, 8)}, block(8, 8, 8), api.ServesPerhaps},
		{api.Wood{}, hook(), api.ServesNever},
		{api.Wood{Sure: hook(), Maybe: hook()}, hook(), api.ServesSure},
		{api.Wood{Sure: hook(), Maybe: hook()}, shape("7.2"), api.ServesNever},
	} {
		if n, e := caliper.Serves(x.w, x.order); n != x.want || e != api.OK {
			t.Errorf("Serves(%v, %v): %d, error %d, want %d", x.w, x.order, n, e, x.want)
		}
	}
}

// isTruth reports whether a solid is a truth of a wood.
func isTruth(w api.Wood, s api.Solid) bool { return hasAll(s, w.Sure) && hasAll(w.Maybe, s) }

func TestH5Truth(t *testing.T) {
	for _, q := range append(questions(150), question{wood: api.Wood{Maybe: block(8, 8, 8)}}) {
		for _, order := range append(shapes(), q.orders...) {
			how, _ := caliper.Serves(q.wood, order)
			for _, want := range []bool{true, false} {
				can := how == api.ServesPerhaps || (how == api.ServesSure) == want
				s, ok, e := caliper.Truth(q.wood, order, want)
				if ok != can || e != api.OK || !ok && s != (api.Solid{}) || ok && (!isTruth(q.wood, s) || fits(s, order) != want) {
					t.Fatalf("Truth(%v, %v, %v): %v, %v, error %d", q.wood, order, want, s, ok, e)
				}
			}
		}
	}
}

// needs returns the needs of an order, by the chapter's words.
func needs(w api.Wood, order api.Solid) []api.Solid {
	places, _ := solid.Places(w.Maybe, order)
	sets := map[api.Solid]bool{}
	for _, place := range places {
		sets[solid.Less(place, w.Sure)] = true
	}
	var l []api.Solid
	for set := range sets {
		fewer := false
		for other := range sets {
			fewer = fewer || other != set && hasAll(set, other)
		}
		if !fewer {
			l = append(l, set)
		}
	}
	slices.SortFunc(l, func(a, b api.Solid) int { return slices.Compare(a[:], b[:]) })
	return l
}

func TestH6Needs(t *testing.T) {
	for _, q := range append(questions(150), large(2)...) {
		for _, order := range append(shapes()[:8], q.orders...) {
			want := needs(q.wood, order)
			sets, e := caliper.Needs(q.wood, order)
			if !slices.Equal(sets, want) || e != api.OK {
				t.Fatalf("Needs(%v, %v): %v, error %d, want %v", q.wood, order, sets, e, want)
			}
			how, _ := caliper.Serves(q.wood, order)
			if (how == api.ServesSure) != slices.Equal(sets, []api.Solid{{}}) || (how == api.ServesNever) != (len(sets) == 0) {
				t.Fatalf("Needs(%v, %v): %v, but it serves it %d", q.wood, order, sets, how)
			}
		}
	}
	w := api.Wood{Maybe: block(8, 8, 1)}
	if sets, e := caliper.Needs(w, shape("1")); len(sets) != 64 || e != api.OK || sets[63] != shape("8000000000000000") {
		t.Errorf("Needs of 64 open cells: %v, error %d", sets, e)
	}
	w.Maybe[1] = 1
	if sets, e := caliper.Needs(w, shape("1")); len(sets) != 0 || e != api.ErrMany {
		t.Errorf("Needs of 65 open cells: %v, error %d", sets, e)
	}
	w.Sure[1] = 1
	if sets, e := caliper.Needs(w, shape("1")); !slices.Equal(sets, []api.Solid{{}}) || e != api.OK {
		t.Errorf("Needs of 64 open cells and a sure one: %v, error %d", sets, e)
	}
}

// P8.2: each truth serves what is served surely, none what is never served; of an order that is served perhaps Truth finds both. A truth serves an order exactly if it has all cells of some need.
func TestP82(t *testing.T) {
	both := 0
	for _, q := range questions(120) {
		for _, order := range append(shapes()[:10], q.orders...) {
			how, e := caliper.Serves(q.wood, order)
			sets, f := caliper.Needs(q.wood, order)
			if e != api.OK || f != api.OK {
				t.Fatalf("%v, %v: errors %d, %d", q.wood, order, e, f)
			}
			for _, s := range truths(q.wood) {
				served := fits(s, order)
				if how == api.ServesSure && !served || how == api.ServesNever && served {
					t.Fatalf("%v serves %v: %d, but %v: %v", q.wood, order, how, s, served)
				}
				if served != slices.ContainsFunc(sets, func(set api.Solid) bool { return hasAll(s, set) }) {
					t.Fatalf("Needs(%v, %v): %v, but %v: %v", q.wood, order, sets, s, served)
				}
			}
			if how != api.ServesPerhaps {
				continue
			}
			both++
			yes, ok, e := caliper.Truth(q.wood, order, true)
			no, is, f := caliper.Truth(q.wood, order, false)
			if !ok || !is || e != api.OK || f != api.OK || !fits(yes, order) || fits(no, order) {
				t.Fatalf("Truth(%v, %v): %v, %v", q.wood, order, yes, no)
			}
		}
	}
	if both < 100 {
		t.Errorf("only %d orders are served perhaps", both)
	}
}
