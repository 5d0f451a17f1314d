package caliper_test

import (
	"math"
	"math/rand/v2"
	"slices"
	"testing"

	"strickle/api"
	"strickle/caliper"
	"strickle/solid"
)

// goodReadings are some that are well-formed.
func goodReadings() []api.Reading {
	return append(sheet(), seen(1, 0, "1"), seen(1000000, 100000, "0.0.0.0.0.0.0.8000000000000000"), bare(77, 5, "ffffffffffffffff.1"), void(1, 0, 1), void(1000000, 100000, 1000000), void(5, 7, 5))
}

// wrongReadings are some that are not.
func wrongReadings() []api.Reading {
	var l []api.Reading
	for _, x := range goodReadings() {
		for _, do := range []func(*api.Reading){
			func(x *api.Reading) { x.Id = 0 },
			func(x *api.Reading) { x.Id = -1 },
			func(x *api.Reading) { x.Id = 1000001 },
			func(x *api.Reading) { x.Id = math.MinInt },
			func(x *api.Reading) { x.Known = -1 },
			func(x *api.Reading) { x.Known = 100001 },
			func(x *api.Reading) { x.Known = math.MaxInt },
			func(x *api.Reading) { x.Kind = 0 },
			func(x *api.Reading) { x.Kind = 4 },
			func(x *api.Reading) { x.Kind = 255 },
			func(x *api.Reading) { x.Cells = api.Solid{} },
			func(x *api.Reading) { x.Cells[7] |= 1 },
			func(x *api.Reading) { x.Of = 1 },
			func(x *api.Reading) { x.Of = 0 },
			func(x *api.Reading) { x.Of = -1 },
			func(x *api.Reading) { x.Of = 1000001 },
		} {
			y := x
			do(&y)
			if !wellFormed(y) {
				l = append(l, y)
			}
		}
	}
	return append(l, api.Reading{})
}

// wellFormed reports whether a reading is well-formed, by the chapter's words.
func wellFormed(x api.Reading) bool {
	want := api.Reading{Id: x.Id, Known: x.Known, Kind: x.Kind}
	switch x.Kind {
	case 1, 2:
		want.Cells = x.Cells
		if solid.Count(x.Cells) == 0 {
			return false
		}
	case 3:
		want.Of = x.Of
		if x.Of < 1 || x.Of > 1000000 {
			return false
		}
	default:
		return false
	}
	return x == want && x.Id >= 1 && x.Id <= 1000000 && x.Known >= 0 && x.Known <= 100000
}

func TestH1CheckReading(t *testing.T) {
	for _, x := range goodReadings() {
		if e := caliper.CheckReading(x); e != api.OK || !wellFormed(x) {
			t.Errorf("CheckReading(%v): error %d", x, e)
		}
	}
	wrong := wrongReadings()
	for _, x := range wrong {
		if e := caliper.CheckReading(x); e != api.ErrArg {
			t.Errorf("CheckReading(%v): error %d", x, e)
		}
	}
	if len(wrong) < 100 {
		t.Errorf("only %d wrong readings", len(wrong))
	}
}

// refusal returns why the reading with an index is refused if those before it are not, by the chapter's words.
func refusal(l []api.Reading, i int) api.Errno {
	x := l[i]
	var id, of, named bool
	for _, y := range l[:i] {
		id = id || y.Id == x.Id
		of = of || y.Id == x.Of && y.Kind != api.ReadVoid
		named = named || y.Kind == api.ReadVoid && y.Of == x.Of
	}
	switch {
	case i >= 200:
		return api.ErrLimit
	case !wellFormed(x):
		return api.ErrArg
	case id:
		return api.ErrTwice
	case i > 0 && x.Known < l[i-1].Known:
		return api.ErrTime
	case x.Kind == api.ReadVoid && !of:
		return api.ErrNone
	case x.Kind == api.ReadVoid && named:
		return api.ErrTwice
	}
	return api.OK
}

// checked returns what Check should.
func checked(l []api.Reading) (int, api.Errno) {
	for i := range l {
		if e := refusal(l, i); e != api.OK {
			return i, e
		}
	}
	return 0, api.OK
}

// long returns a list of n readings that is a sheet if it is not too long.
func long(n int) []api.Reading {
	var l []api.Reading
	for i := range n {
		l = append(l, seen(i+1, i/2, "1"))
	}
	return l
}

// someReading returns a reading, of the 3 x 3 cells of the plane 0 or void.
func someReading(r *rand.Rand, day int) api.Reading {
	x := api.Reading{Id: 1 + r.IntN(30), Known: day, Kind: uint8(1 + r.IntN(3))}
	if x.Kind == api.ReadVoid {
		x.Of = 1 + r.IntN(30)
		return x
	}
	for x.Cells == (api.Solid{}) {
		for range 1 + r.IntN(3) {
			x.Cells[0] |= 1 << (8*r.IntN(3) + r.IntN(3))
		}
		x.Cells[0] &^= 2
	}
	return x
}

// sheets returns the chapter's sheet, n others, and some long ones.
func sheets(n int) [][]api.Reading {
	r := rand.New(rand.NewPCG(1, uint64(n)))
	l := [][]api.Reading{nil, sheet(), sheet()[:1], long(200)}
	for range n {
		var some []api.Reading
		day := 0
		for range r.IntN(30) {
			x := someReading(r, day)
			if len(some) > 2 && x.Kind == api.ReadVoid {
				x.Of = some[r.IntN(len(some))].Id
			}
			if longer := append(slices.Clone(some), x); refusal(longer, len(some)) == api.OK {
				some = longer
			}
			day += r.IntN(3) / 2
		}
		l = append(l, some)
	}
	return l
}

func TestH1Check(t *testing.T) {
	for _, x := range []struct {
		l  []api.Reading
		at int
		e  api.Errno
	}{
		{nil, 0, api.OK}, {sheet(), 0, api.OK}, {long(200), 0, api.OK}, {long(201), 200, api.ErrLimit}, {long(1000), 200, api.ErrLimit},
		{append(long(200), api.Reading{}), 200, api.ErrLimit},
		{append([]api.Reading{{}}, long(201)...), 0, api.ErrArg},
		{append(sheet(), void(5, 3, 0)), 4, api.ErrArg},
		{append(sheet(), void(0, 3, 1)), 4, api.ErrArg},
		{append(sheet(), void(1, 0, 0)), 4, api.ErrArg},
		{append(sheet(), seen(4, 3, "1")), 4, api.ErrTwice},
		{append(sheet(), seen(4, 2, "1")), 4, api.ErrTwice},
		{append(sheet(), void(4, 2, 9)), 4, api.ErrTwice},
		{append(sheet(), seen(5, 2, "1")), 4, api.ErrTime},
		{append(sheet(), void(5, 2, 9)), 4, api.ErrTime},
		{append(sheet(), void(5, 2, 2)), 4, api.ErrTime},
		{append(sheet(), void(5, 3, 9)), 4, api.ErrNone},
		{append(sheet(), void(5, 3, 5)), 4, api.ErrNone}, // itself
		{append(sheet(), void(5, 3, 4)), 4, api.ErrNone}, // a void one
		{append(sheet(), void(5, 3, 6), seen(6, 3, "1")), 4, api.ErrNone},
		{append(sheet(), void(5, 3, 2)), 4, api.ErrTwice},
		{append(sheet(), void(5, 3, 1), void(6, 3, 3), void(7, 3, 1)), 6, api.ErrTwice},
		{append(sheet(), seen(5, 3, "1"), void(6, 100000, 5)), 0, api.OK},
		{append(sheet(), seen(5, 1, "1"), seen(1, 9, "1")), 4, api.ErrTime},
	} {
		if at, e := caliper.Check(x.l); at != x.at || e != x.e {
			t.Errorf("Check(%v): %d, error %d, want %d, error %d", x.l, at, e, x.at, x.e)
		}
	}
	r := rand.New(rand.NewPCG(1, 1))
	wrong := wrongReadings()
	ends := map[api.Errno]int{}
	for _, l := range sheets(1000) {
		if len(l) < 2 {
			continue
		}
		i := r.IntN(len(l))
		switch r.IntN(5) {
		case 0:
			l[i].Id = l[r.IntN(len(l))].Id
		case 1:
			l[i].Known += r.IntN(3) - 1
		case 2:
			l[i] = wrong[r.IntN(len(wrong))]
		case 3:
			l[i], l[0] = l[0], l[i]
		case 4:
			l[i] = void(l[i].Id, l[i].Known, l[r.IntN(len(l))].Id)
		}
		want, f := checked(l)
		if at, e := caliper.Check(l); at != want || e != f {
			t.Fatalf("Check(%v): %d, error %d, want %d, error %d", l, at, e, want, f)
		}
		ends[f]++
	}
	for _, e := range []api.Errno{api.OK, api.ErrArg, api.ErrTwice, api.ErrTime, api.ErrNone} {
		if ends[e] < 20 {
			t.Errorf("the error %d is there only %d times", e, ends[e])
		}
	}
}

func TestH1Append(t *testing.T) {
	r := rand.New(rand.NewPCG(1, 2))
	added := 0
	for _, l := range append(sheets(300), long(199), long(201)) {
		for range 5 {
			x := someReading(r, r.IntN(12))
			if r.IntN(5) == 0 {
				x = pick(r, wrongReadings()...)
			}
			want := append(slices.Clone(l), x)
			_, f := checked(want)
			if f != api.OK {
				want = nil
			} else {
				added++
			}
			if longer, e := caliper.Append(l, x); !slices.Equal(longer, want) || e != f {
				t.Fatalf("Append(%v, %v): %v, error %d, want error %d", l, x, longer, e, f)
			}
		}
	}
	if added < 100 {
		t.Errorf("only %d readings were added", added)
	}
	// The error of the sheet is ahead of that of the reading.
	if l, e := caliper.Append([]api.Reading{seen(1, 1, "1"), seen(2, 0, "1")}, api.Reading{}); len(l) != 0 || e != api.ErrTime {
		t.Errorf("Append: %v, error %d", l, e)
	}
}

// counting returns the readings that count on a day, by the chapter's words.
func counting(l []api.Reading, day int) []api.Reading {
	return slices.DeleteFunc(slices.Clone(l), func(x api.Reading) bool {
		return x.Kind == api.ReadVoid || x.Known > day || slices.ContainsFunc(l, func(y api.Reading) bool {
			return y.Kind == api.ReadVoid && y.Known <= day && y.Of == x.Id
		})
	})
}

// days are some days, with such as no reading can be of.
func days() []int { return []int{math.MinInt, -1, 0, 1, 2, 3, 4, 6, 8, 100, 100000, math.MaxInt} }

func TestH1Counting(t *testing.T) {
	for _, l := range sheets(300) {
		for _, day := range days() {
			if some, e := caliper.Counting(l, day); !slices.Equal(some, counting(l, day)) || e != api.OK {
				t.Fatalf("Counting(%v, %d): %v, error %d", l, day, some, e)
			}
		}
	}
}

// wrongSheets are lists that are no sheets, with their errors.
func wrongSheets() map[api.Errno][]api.Reading {
	return map[api.Errno][]api.Reading{
		api.ErrLimit: long(201),
		api.ErrArg:   append(sheet(), api.Reading{}),
		api.ErrTwice: append(sheet(), seen(1, 5, "1")),
		api.ErrTime:  append(sheet(), seen(5, 0, "1")),
		api.ErrNone:  append(sheet(), void(5, 5, 6)),
	}
}

// P8.1: functions with a sheet return the error of Check, and nothing else then.
func TestP81WrongSheets(t *testing.T) {
	for want, l := range wrongSheets() {
		longer, e := caliper.Append(l, seen(9, 9, "1"))
		some, f := caliper.Counting(l, 9)
		if len(longer) != 0 || len(some) != 0 || e != want || f != want {
			t.Errorf("Append: %v, error %d, Counting: %v, error %d, want %d", longer, e, some, f, want)
		}
		w, e := caliper.Known(blank(), l, 2)
		c, ids, ok, f := caliper.Doubt(blank(), l, 2)
		if w != (api.Wood{}) || c != (api.Cell{}) || len(ids) != 0 || ok || e != want || f != want {
			t.Errorf("Known: %v, error %d, Doubt: %v, %v, %v, error %d, want %d", w, e, c, ids, ok, f, want)
		}
		ids, e = caliper.Rests(blank(), l, 2, api.Cell{X: 9})
		s, f := caliper.Reached(blank(), l, api.Reading{})
		if len(ids) != 0 || s != (api.Solid{}) || e != want || f != want {
			t.Errorf("Rests: %v, error %d, Reached: %v, error %d, want %d", ids, e, s, f, want)
		}
	}
}
