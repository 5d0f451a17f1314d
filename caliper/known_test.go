package caliper_test

import (
	"math/rand/v2"
	"slices"
	"testing"

	"strickle/api"
	"strickle/caliper"
	"strickle/solid"
)

// allCells are the cells of the grid, in order.
func allCells() []api.Cell {
	var l []api.Cell
	for z := range 8 {
		for y := range 8 {
			for x := range 8 {
				l = append(l, api.Cell{X: x, Y: y, Z: z})
			}
		}
	}
	return l
}

// blanks are some blanks for the readings of the samples.
func blanks() []api.Solid {
	return []api.Solid{blank(), {}, shape("5"), block(8, 8, 8), shape("70507"), shape("0.7")}
}

// saying returns the Ids of the readings of a kind that count on a day and have a cell, in order.
func saying(l []api.Reading, day int, kind uint8, c api.Cell) []int {
	var ids []int
	for _, x := range counting(l, day) {
		if x.Kind == kind && solid.Has(x.Cells, c) {
			ids = append(ids, x.Id)
		}
	}
	return ids
}

// told returns what is known of a pattern, cell by cell, and the first cell in doubt, if there is one.
func told(blank api.Solid, l []api.Reading, day int) (w api.Wood, doubt api.Cell, inDoubt bool) {
	for _, c := range allCells() {
		one := of([]api.Cell{c})
		sure := len(saying(l, day, api.ReadSeen, c)) > 0
		maybe := solid.Has(blank, c) && len(saying(l, day, api.ReadBare, c)) == 0
		if sure {
			w.Sure = solid.Join(w.Sure, one)
		}
		if maybe {
			w.Maybe = solid.Join(w.Maybe, one)
		}
		if sure && !maybe && !inDoubt {
			doubt, inDoubt = c, true
		}
	}
	return w, doubt, inDoubt
}

func TestH2Known(t *testing.T) {
	doubts, clear := 0, 0
	for i, l := range sheets(60) {
		s := blanks()[i%len(blanks())]
		for _, day := range []int{-1, 0, 1, 3, 5, 100000} {
			want, _, doubt := told(s, l, day)
			f := api.OK
			if doubt {
				want, f = api.Wood{}, api.ErrDoubt
				doubts++
			} else {
				clear++
			}
			if w, e := caliper.Known(s, l, day); w != want || e != f {
				t.Fatalf("Known(%v, %v, %d): %v, error %d, want %v", s, l, day, w, e, want)
			}
		}
	}
	if doubts < 50 || clear < 50 {
		t.Errorf("%d days with a doubt, and %d without one", doubts, clear)
	}
}

func TestH2Doubt(t *testing.T) {
	kinds := [3]int{}
	for i, l := range sheets(60) {
		s := blanks()[i%len(blanks())]
		for _, day := range []int{-1, 0, 1, 3, 5, 100000} {
			_, want, doubt := told(s, l, day)
			var both []int
			if doubt {
				both = append(both, saying(l, day, api.ReadSeen, want)[0])
				if solid.Has(s, want) {
					both = append(both, saying(l, day, api.ReadBare, want)[0])
				}
			}
			kinds[len(both)]++
			if c, ids, ok, e := caliper.Doubt(s, l, day); c != want || !slices.Equal(ids, both) || ok != doubt || e != api.OK {
				t.Fatalf("Doubt(%v, %v, %d): %v, %v, %v, error %d, want %v, %v", s, l, day, c, ids, ok, e, want, both)
			}
		}
	}
	if slices.Min(kinds[:]) < 20 {
		t.Errorf("so many Ids, so many times: %v", kinds)
	}
	// A cell that is not in the blank: of the ReadSeen alone, even if a ReadBare has it.
	l := []api.Reading{bare(8, 0, "8"), seen(5, 0, "18"), seen(2, 0, "8")}
	if c, ids, ok, e := caliper.Doubt(blank(), l, 0); c != (api.Cell{X: 3}) || !slices.Equal(ids, []int{5}) || !ok || e != api.OK {
		t.Errorf("Doubt: %v, %v, %v, error %d", c, ids, ok, e)
	}
}

func TestH3Rests(t *testing.T) {
	for i, l := range sheets(60) {
		for _, day := range []int{-1, 0, 1, 3, 5, 100000} {
			for _, c := range []api.Cell{{}, {X: 1}, {X: 2, Y: 2}, {Y: 1}, {X: 7, Y: 7, Z: 7}, {X: 1, Z: 1}} {
				want := slices.Concat(saying(l, day, api.ReadSeen, c), saying(l, day, api.ReadBare, c))
				slices.Sort(want)
				if ids, e := caliper.Rests(blanks()[i%len(blanks())], l, day, c); !slices.Equal(ids, want) || e != api.OK {
					t.Fatalf("Rests(%v, %d, %v): %v, error %d, want %v", l, day, c, ids, e, want)
				}
			}
		}
	}
	for _, c := range []api.Cell{{X: 8}, {Y: 8}, {Z: 8}, {X: -1}, {Y: -1}, {Z: -1}, {X: 1 << 40}} {
		if ids, e := caliper.Rests(blank(), sheet(), 2, c); len(ids) != 0 || e != api.ErrArg {
			t.Errorf("Rests(%v): %v, error %d", c, ids, e)
		}
	}
}

func TestH3Reached(t *testing.T) {
	r := rand.New(rand.NewPCG(3, 3))
	reached, refused := 0, 0
	for i, l := range sheets(150) {
		s := blanks()[i%len(blanks())]
		for range 4 {
			x := someReading(r, 15)
			if x.Kind == api.ReadVoid && len(l) > 0 {
				x.Of = l[r.IntN(len(l))].Id
			}
			longer := append(slices.Clone(l), x)
			var want api.Solid
			_, f := checked(longer)
			if f == api.OK {
				before, _, _ := told(s, l, x.Known)
				after, _, _ := told(s, longer, x.Known)
				for z := range want {
					want[z] = (before.Sure[z] ^ after.Sure[z]) | (before.Maybe[z] ^ after.Maybe[z])
				}
				if want != (api.Solid{}) {
					reached++
				}
			} else {
				refused++
			}
			if cells, e := caliper.Reached(s, l, x); cells != want || e != f {
				t.Fatalf("Reached(%v, %v, %v): %v, error %d, want %v, error %d", s, l, x, cells, e, want, f)
			}
		}
	}
	if reached < 50 || refused < 50 {
		t.Errorf("%d times something was reached, %d times it was refused", reached, refused)
	}
	for _, x := range []struct {
		reading api.Reading
		want    string
	}{{seen(5, 3, "207"), "0"}, {seen(5, 3, "10007"), "10000"}, {seen(5, 3, "8"), "8"}, {bare(5, 3, "f"), "7"}, {bare(5, 3, "8"), "0"}, {void(5, 3, 3), "200"}, {void(5, 3, 1), "7"}} {
		if s, e := caliper.Reached(blank(), sheet(), x.reading); s != shape(x.want) || e != api.OK {
			t.Errorf("Reached(%v): %v, error %d, want %s", x.reading, s, e, x.want)
		}
	}
}

// without returns a list without the element with an index.
func without[T any](l []T, i int) []T { return slices.Delete(slices.Clone(l), i, i+1) }

// P8.6: what is known on a day does not depend on later readings; with a ReadSeen or ReadBare more no order that was served surely or never is served otherwise, as long as no cell is in doubt.
func TestP86(t *testing.T) {
	r := rand.New(rand.NewPCG(8, 6))
	same, kept := 0, 0
	for _, l := range sheets(150) {
		for day := range 6 {
			var early []api.Reading
			for _, x := range l {
				if x.Known <= day {
					early = append(early, x)
				}
			}
			w, e := caliper.Known(blank(), l, day)
			if v, f := caliper.Known(blank(), early, day); v != w || f != e {
				t.Fatalf("%v, on the day %d: %v, error %d, but of %v: %v, error %d", l, day, w, e, early, v, f)
			}
			same += min(1, len(l)-len(early))
			x := someReading(r, day)
			longer, f := caliper.Append(early, x)
			if e != api.OK || f != api.OK || x.Kind == api.ReadVoid {
				continue
			}
			v, e := caliper.Known(blank(), longer, day)
			if e != api.OK {
				continue
			}
			for _, order := range shapes() {
				n, _ := caliper.Serves(w, order)
				m, e := caliper.Serves(v, order)
				if e != api.OK || n != api.ServesPerhaps && m != n {
					t.Fatalf("%v serves %v: %d, with %v more: %d, error %d", early, order, n, x, m, e)
				}
				if n != m {
					kept++
				}
			}
		}
	}
	if same < 100 || kept < 20 {
		t.Errorf("%d days with later readings, %d orders that become served otherwise", same, kept)
	}
}

// P8.7: if a cell is in doubt, the readings of Doubt alone leave it so.
func TestP87(t *testing.T) {
	doubts := 0
	for i, l := range sheets(200) {
		s := blanks()[i%len(blanks())]
		for day := range 8 {
			c, ids, ok, e := caliper.Doubt(s, l, day)
			if e != api.OK || !ok {
				continue
			}
			doubts++
			alone := slices.DeleteFunc(slices.Clone(l), func(x api.Reading) bool { return !slices.Contains(ids, x.Id) })
			d, again, ok, e := caliper.Doubt(s, alone, day)
			if len(alone) != len(ids) || !ok || e != api.OK {
				t.Fatalf("Doubt(%v, %v, %d): %v, of %v alone: %v, error %d", s, l, day, ids, alone, ok, e)
			}
			if d == c && !slices.Equal(again, ids) {
				t.Fatalf("Doubt(%v, %v, %d): %v, of them alone %v", s, l, day, ids, again)
			}
			if w, _, _ := told(s, alone, day); !solid.Has(w.Sure, c) || solid.Has(w.Maybe, c) {
				t.Fatalf("Doubt(%v, %v, %d): %v, of %v alone it is not in doubt", s, l, day, c, alone)
			}
			// With fewer of them it is not in doubt.
			for i := range alone {
				if w, _, _ := told(s, without(alone, i), day); solid.Has(w.Sure, c) && !solid.Has(w.Maybe, c) {
					t.Fatalf("Doubt(%v, %v, %d): %v, also without %v", s, l, day, c, alone[i])
				}
			}
		}
	}
	if doubts < 100 {
		t.Errorf("only %d doubts", doubts)
	}
}
