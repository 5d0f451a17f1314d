package figure_test

import (
	"math"
	"math/rand/v2"
	"slices"
	"strings"
	"testing"

	"strickle/api"
	"strickle/figure"
	"strickle/solid"
)

// valuesOf says what the values of a drawing are: the index of the first term that cannot be, and false.
func valuesOf(l []api.Term) ([]api.Solid, int, bool) {
	var values []api.Solid
	for i, t := range l {
		s, ok := value(t, values)
		if !ok {
			return nil, i, false
		}
		values = append(values, s)
	}
	return values, 0, true
}

// drawnAs checks Values and Compile of a drawing by the texts of its values.
func drawnAs(t *testing.T, src string, want ...string) {
	t.Helper()
	l := parsed(t, src)
	values, i, e := figure.Values(l)
	var texts []string
	for _, s := range values {
		texts = append(texts, solid.Write(s))
	}
	if !slices.Equal(texts, want) || i != 0 || e != api.OK {
		t.Errorf("Values(%q): %q, %d, error %d, want %q", src, texts, i, e, want)
	}
	if s, i, e := figure.Compile(l); solid.Write(s) != want[len(want)-1] || i != 0 || e != api.OK {
		t.Errorf("Compile(%q): %q, %d, error %d, want %q", src, solid.Write(s), i, e, want[len(want)-1])
	}
}

func TestF3Values(t *testing.T) {
	drawnAs(t, ringText, "70707", "200", "70507")
	drawnAs(t, "a = block 0 0 0 1 1 1", "1")
	drawnAs(t, "a = block 7 7 7 1 1 1", "0.0.0.0.0.0.0.8000000000000000")
	drawnAs(t, "a = block 1 2 1 3 2 2", "0.e0e0000.e0e0000")
	drawnAs(t, "a = block 0 0 0 2 1 1\nb = block 1 0 0 2 1 1\nc = join a b\nd = less a b\ne = less b a\nf = meet a b\ng = meet d e", "3", "6", "7", "1", "4", "2", "0")
	drawnAs(t, "a = block 0 0 0 2 1 1\nb = move a 6 7 1\nc = move b -6 -7 -1\nd = move a 0 0 0", "3", "0.c000000000000000", "3", "3")
	drawnAs(t, "a = block 0 0 0 3 1 1\nb = turn a 1\nc = turn a 4\nd = turn a 0\ne = turn b 1", "7", "808080", "700000000000000", "7", "e000000000000000")
	drawnAs(t, "a = block 0 0 0 1 1 1\nb = row a 8 1 1 1\nc = row a 2 0 0 7\nd = row a 3 0 0 0\ne = row a 3 2 0 0\nf = row e 2 1 0 0", "1", "1.200.40000.8000000.1000000000.200000000000.40000000000000.8000000000000000", "1.0.0.0.0.0.0.1", "1", "15", "3f")
	drawnAs(t, "a = block 0 0 0 2 1 1\nb = mirror a 0\nc = mirror a 1\nd = mirror a 2", "3", "c0", "300000000000000", "0.0.0.0.0.0.0.3")
	drawnAs(t, "a = spun 0 ba\nb = spun 6 2(a)\nc = spun 7 o", "183c3c180000.1818000000", "0.0.0.0.0.0.1818000000.1818000000", "0")
	// Nothing can be moved anywhere.
	drawnAs(t, "a = block 0 0 0 1 1 1\nb = less a a\nc = move b 7 7 7\nd = row c 8 7 -7 7\ne = turn d 5\nf = join a e", "1", "0", "0", "0", "0", "1")
	if values, i, e := figure.Values(nil); len(values) != 0 || i != 0 || e != api.OK {
		t.Errorf("Values of nothing: %v, %d, error %d", values, i, e)
	}
}

func TestF3CannotBe(t *testing.T) {
	for src, want := range map[string]int{
		"a = block 0 0 0 1 1 1\nb = move a -1 0 0": 1, "a = block 0 0 0 1 1 1\nb = move a 0 -1 0": 1, "a = block 0 0 0 1 1 1\nb = move a 0 0 -1": 1,
		"a = block 7 7 7 1 1 1\nb = move a 1 0 0": 1, "a = block 7 7 7 1 1 1\nb = move a 0 1 0": 1, "a = block 7 7 7 1 1 1\nb = move a 0 0 1": 1,
		"a = block 1 0 0 1 1 1\nb = row a 8 1 0 0": 1, "a = block 0 0 0 1 1 1\nb = row a 3 4 0 0": 1, "a = block 0 0 7 1 1 1\nb = row a 2 0 0 1": 1, "a = block 0 5 0 1 1 1\nb = row a 4 0 -2 0": 1,
		"a = block 0 0 0 8 8 8\nb = turn a 1\nc = move b 0 0 1\nd = move b 1 0 0": 2,
		// Also what the last term does not rest on has to be.
		"a = block 0 0 0 1 1 1\nb = move a -1 0 0\nc = turn a 0": 1, "a = spun 0 a\nb = row a 2 0 0 7\nc = row a 2 4 0 0\nd = move a 0 0 -1": 2,
		ringText + "two = row ring 2 0 0 2\nfar = move two 0 0 6\n": 4,
	} {
		l := parsed(t, src)
		if values, i, e := figure.Values(l); len(values) != 0 || i != want || e != api.ErrOut {
			t.Errorf("Values(%q): %v, %d, error %d, want %d", src, values, i, e, want)
		}
		if s, i, e := figure.Compile(l); s != (api.Solid{}) || i != want || e != api.ErrOut {
			t.Errorf("Compile(%q): %v, %d, error %d, want %d", src, s, i, e, want)
		}
		// Check says nothing of it, and neither do those that only read the drawing.
		right(t, l)
		if lean, e := figure.Lean(l); e != api.OK || len(lean) == 0 {
			t.Errorf("Lean(%q): %v, error %d", src, lean, e)
		}
		// A term that is refused is named, also if it stands behind one that cannot be.
		wrong(t, append(l, api.Term{}), len(l), api.ErrArg)
	}
}

func TestF3CompileNothing(t *testing.T) {
	for _, l := range [][]api.Term{nil, {}} {
		if s, i, e := figure.Compile(l); s != (api.Solid{}) || i != 0 || e != api.ErrNone {
			t.Errorf("Compile of nothing: %v, %d, error %d", s, i, e)
		}
	}
}

// F3, cell by cell; P6.6: each value follows from those of A and B.
func TestP66Values(t *testing.T) {
	r := rand.New(rand.NewPCG(6, 4))
	out := 0
	for n := range 6000 {
		l := drawing(r, 1+r.IntN(12), n%2 == 0)
		want, index, ok := valuesOf(l)
		wantError := api.OK
		if !ok {
			wantError = api.ErrOut
			out++
		}
		if values, i, e := figure.Values(l); !slices.Equal(values, want) || i != index || e != wantError {
			t.Fatalf("Values(%s): %v, %d, error %d, want %v, %d, %d", figure.Print(l), values, i, e, want, index, wantError)
		}
		last := api.Solid{}
		if ok {
			last = want[len(want)-1]
		}
		if s, i, e := figure.Compile(l); s != last || i != index || e != wantError {
			t.Fatalf("Compile(%s): %v, %d, error %d, want %v, %d, %d", figure.Print(l), s, i, e, last, index, wantError)
		}
	}
	if out < 500 {
		t.Errorf("only %d drawings cannot be", out)
	}
}

func TestF4Uses(t *testing.T) {
	l := parsed(t, ringText+"two = row ring 2 0 0 2\nfar = move two 0 0 6\nother = spun 0 a\nboth = meet other hole\nself = join both both\n")
	for i, want := range [][]int{{0}, {1}, {0, 1, 2}, {0, 1, 2, 3}, {0, 1, 2, 3, 4}, {5}, {1, 5, 6}, {1, 5, 6, 7}} {
		if u, e := figure.Uses(l, i); !slices.Equal(u, want) || e != api.OK {
			t.Errorf("Uses(%d): %v, error %d, want %v", i, u, e, want)
		}
	}
	for _, i := range []int{-1, 8, 9, 40, math.MinInt, math.MaxInt} {
		if u, e := figure.Uses(l, i); len(u) != 0 || e != api.ErrArg {
			t.Errorf("Uses(%d): %v, error %d", i, u, e)
		}
	}
	for _, i := range []int{-1, 0, 1} {
		if u, e := figure.Uses(nil, i); len(u) != 0 || e != api.ErrArg {
			t.Errorf("Uses of nothing, %d: %v, error %d", i, u, e)
		}
	}
}

// resting says on which terms a term rests: it, and all on which those rest that it has.
func resting(l []api.Term, i int) []int {
	u := []int{i}
	for _, j := range needs(l[i]) {
		u = append(u, resting(l[:j+1], j)...)
	}
	slices.Sort(u)
	return slices.Compact(u)
}

func TestF4Lean(t *testing.T) {
	for src, want := range map[string]string{
		"":                             "",
		ringText:                       ringText,
		ringText + "b = turn base 1\n": "base = block 0 0 0 3 3 1\nb = turn base 1\n",
		ringText + "b = turn hole 1\nc = row b 2 0 0 1\nd = less b hole\n":   "hole = block 1 1 0 1 1 1\nb = turn hole 1\nd = less b hole\n",
		ringText + "b = spun 0 a\nc = meet b b\n":                            "b = spun 0 a\nc = meet b b\n",
		ringText + "z = spun 3 2(a)\n":                                       "z = spun 3 2(a)\n",
		ringText + "m = mirror ring 1\nn = move hole 0 0 1\no = join n m\n":  ringText + "m = mirror ring 1\nn = move hole 0 0 1\no = join n m\n",
		ringText + "m = mirror hole 1\nn = move base 0 0 -1\no = less m m\n": "hole = block 1 1 0 1 1 1\nm = mirror hole 1\no = less m m\n",
	} {
		l, e := figure.Lean(parsed(t, src))
		if figure.Print(l) != want || e != api.OK {
			t.Errorf("Lean(%q): %v, error %d, want %q", src, l, e, want)
		}
	}
}

// P6.6: Lean has the lines of the terms on which the last one rests, and draws the same; Lean of it is the same, and Uses of its last term has all.
func TestP66Lean(t *testing.T) {
	r := rand.New(rand.NewPCG(6, 5))
	left := 0
	for n := range 3000 {
		l := drawing(r, 1+r.IntN(14), n%2 == 0)
		for i := range l {
			if u, e := figure.Uses(l, i); !slices.Equal(u, resting(l, i)) || e != api.OK {
				t.Fatalf("Uses(%s, %d): %v, error %d, want %v", figure.Print(l), i, u, e, resting(l, i))
			}
		}
		lines := strings.SplitAfter(figure.Print(l), "\n")
		want := ""
		used := resting(l, len(l)-1)
		for _, i := range used {
			want += lines[i]
		}
		lean, e := figure.Lean(l)
		if figure.Print(lean) != want || e != api.OK {
			t.Fatalf("Lean(%s): %s, error %d, want %s", figure.Print(l), figure.Print(lean), e, want)
		}
		if again, e := figure.Lean(lean); !slices.Equal(again, lean) || e != api.OK {
			t.Fatalf("Lean(%s): %s, error %d", want, figure.Print(again), e)
		}
		if u, e := figure.Uses(lean, len(lean)-1); len(u) != len(lean) || e != api.OK {
			t.Fatalf("Uses(%s): %v, error %d", want, u, e)
		}
		if n%2 == 0 {
			a, _, e := figure.Compile(l)
			b, _, f := figure.Compile(lean)
			if a != b || e != api.OK || f != api.OK {
				t.Fatalf("%s and %s draw %v and %v, errors %d, %d", figure.Print(l), want, a, b, e, f)
			}
		}
		left += len(l) - len(lean)
	}
	if left < 1000 {
		t.Errorf("only %d terms are left out", left)
	}
}
