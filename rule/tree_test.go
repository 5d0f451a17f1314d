package rule_test

import (
	"math"
	"math/big"
	"testing"

	"strickle/api"
	"strickle/rule"
)

// simplestOf finds the simplest fraction of a range as its definition says: Den by Den, and of a Den the Num nearest to 0.
func simplestOf(low, high api.Frac) api.Frac {
	for den := 1; ; den++ {
		by := big.NewRat(int64(den), 1)
		least := ceilOf(new(big.Rat).Mul(rat(low), by))
		most := floorOf(new(big.Rat).Mul(rat(high), by))
		if least > most {
			continue
		}
		switch {
		case least > 0:
			return of(least, den)
		case most < 0:
			return of(most, den)
		}
		return of(0, 1)
	}
}

func TestA4Simplest(t *testing.T) {
	for _, x := range []struct{ low, high, want api.Frac }{
		{of(3, 10), of(1, 3), of(1, 3)},
		{of(5, 16), of(21, 64), of(5, 16)},
		{of(-7, 2), of(9, 4), of(0, 1)},
		{of(9, 4), of(17, 5), of(3, 1)},
		{of(31, 100), of(8, 25), of(5, 16)},
		{of(-8, 25), of(-31, 100), of(-5, 16)},
		{of(-9, 1), of(-5, 1), of(-5, 1)},
		{of(5, 1), of(9, 1), of(5, 1)},
		{of(-17, 5), of(-9, 4), of(-3, 1)},
		{of(-1000000000, 1), of(1000000000, 1), of(0, 1)},
		{of(-1000000000, 1), of(-1, 1000000), of(-1, 1)},
		{of(1, 1000000), of(1000000000, 1), of(1, 1)},
		{of(0, 1), of(1000000000, 1), of(0, 1)},
		{of(-1000000000, 1), of(0, 1), of(0, 1)},
		{of(1, 1000000), of(1, 999999), of(1, 999999)},
		{of(-1, 999999), of(-1, 1000000), of(-1, 999999)},
		{of(999998, 999999), of(999999, 1000000), of(999998, 999999)},
		{of(1, 1000000), of(1, 1000000), of(1, 1000000)},
		{of(999999999, 1), of(1000000000, 1), of(999999999, 1)},
		{of(999999999, 2), of(999999999, 2), of(999999999, 2)},
	} {
		y, e := rule.Simplest(x.low, x.high)
		ok, f := rule.CheckSimplest(x.low, x.high, x.want)
		if y != x.want || e != api.OK || !ok || f != api.OK {
			t.Errorf("Simplest(%v, %v): %v, %v, errors %d, %d", x.low, x.high, y, ok, e, f)
		}
	}
}

// P1.2: CheckSimplest accepts what Simplest returns, and no other one.
func TestP12Simplest(t *testing.T) {
	l := grid(3, 7)
	for i, low := range l {
		for _, high := range l[i:] {
			want := simplestOf(low, high)
			if x, e := rule.Simplest(low, high); x != want || e != api.OK {
				t.Fatalf("Simplest(%v, %v): %v, error %d, want %v", low, high, x, e, want)
			}
			for _, x := range l {
				if ok, e := rule.CheckSimplest(low, high, x); ok != (x == want) || e != api.OK {
					t.Fatalf("CheckSimplest(%v, %v, %v): %v, error %d", low, high, x, ok, e)
				}
			}
		}
	}
}

// P1.2: the simplest lies in the range; if its Den is above 1 its neighbours lie outside.
func TestP12SimplestDrawn(t *testing.T) {
	l := ascending(append(drawn(300), edges()...))
	apart := 0
	for i, low := range l {
		for _, high := range l[i:min(i+12, len(l))] {
			x, e := rule.Simplest(low, high)
			ok, f := rule.CheckSimplest(low, high, x)
			if e != api.OK || !ok || f != api.OK || rat(low).Cmp(rat(x)) > 0 || rat(x).Cmp(rat(high)) > 0 {
				t.Fatalf("Simplest(%v, %v): %v, %v, errors %d, %d", low, high, x, ok, e, f)
			}
			for _, y := range []api.Frac{low, high, of(x.Num+1, x.Den), of(x.Num-1, x.Den), of(0, 1)} {
				if ok, f := rule.CheckSimplest(low, high, y); rule.CheckFrac(y) == api.OK && (ok != (y == x) || f != api.OK) {
					t.Fatalf("CheckSimplest(%v, %v, %v): %v, error %d", low, high, y, ok, f)
				}
			}
			if x.Den == 1 {
				if want := simplestOf(low, high); x != want {
					t.Fatalf("Simplest(%v, %v): %v, want %v", low, high, x, want)
				}
				continue
			}
			apart++
			a, b, e := rule.Neighbours(x)
			if e != api.OK || rat(a).Cmp(rat(low)) >= 0 || rat(b).Cmp(rat(high)) <= 0 || x.Num*a.Den != x.Den*a.Num+1 {
				t.Fatalf("Simplest(%v, %v): %v, neighbours %v, %v, error %d", low, high, x, a, b, e)
			}
		}
	}
	if apart < 300 {
		t.Errorf("only %d ranges without a whole number", apart)
	}
}

// A fraction that is not as said decides ahead of a range whose ends are the wrong way round.
func TestA4Wrong(t *testing.T) {
	half, third := of(1, 2), of(1, 3)
	if x, e := rule.Simplest(half, third); x != (api.Frac{}) || e != api.ErrOrder {
		t.Errorf("Simplest: %v, error %d", x, e)
	}
	for _, x := range []api.Frac{half, third, of(0, 1), of(2, 5)} {
		if ok, e := rule.CheckSimplest(half, third, x); ok || e != api.ErrOrder {
			t.Errorf("CheckSimplest: %v, error %d", ok, e)
		}
	}
	if _, e := rule.Simplest(of(1, 999999), of(1, 1000000)); e != api.ErrOrder {
		t.Errorf("Simplest: error %d", e)
	}
	for _, x := range wrong() {
		for _, l := range [][3]api.Frac{{x, half, half}, {half, x, half}, {x, x, half}, {half, third, x}, {third, half, x}, {x, x, x}} {
			if ok, e := rule.CheckSimplest(l[0], l[1], l[2]); ok || e != api.ErrArg {
				t.Errorf("CheckSimplest(%v): %v, error %d", l, ok, e)
			}
			if l[2] == x && l[0] != x {
				continue
			}
			if y, e := rule.Simplest(l[0], l[1]); y != (api.Frac{}) || e != api.ErrArg {
				t.Errorf("Simplest(%v): %v, error %d", l, y, e)
			}
		}
	}
}

func TestA5Neighbours(t *testing.T) {
	for _, x := range []struct{ x, low, high api.Frac }{
		{of(3, 8), of(1, 3), of(2, 5)},
		{of(1, 2), of(0, 1), of(1, 1)},
		{of(-1, 2), of(-1, 1), of(0, 1)},
		{of(-3, 2), of(-2, 1), of(-1, 1)},
		{of(5, 16), of(4, 13), of(1, 3)},
		{of(1, 1000000), of(0, 1), of(1, 999999)},
		{of(-1, 1000000), of(-1, 999999), of(0, 1)},
		{of(999999, 1000000), of(999998, 999999), of(1, 1)},
		{of(999999999, 2), of(499999999, 1), of(500000000, 1)},
	} {
		if a, b, e := rule.Neighbours(x.x); a != x.low || b != x.high || e != api.OK {
			t.Errorf("Neighbours(%v): %v, %v, error %d", x.x, a, b, e)
		}
	}
	for _, x := range []api.Frac{of(4, 1), of(0, 1), of(-1, 1), of(1000000000, 1), of(-1000000000, 1)} {
		if a, b, e := rule.Neighbours(x); a != (api.Frac{}) || b != (api.Frac{}) || e != api.ErrWhole {
			t.Errorf("Neighbours(%v): %v, %v, error %d", x, a, b, e)
		}
	}
	for _, x := range wrong() {
		if a, b, e := rule.Neighbours(x); a != (api.Frac{}) || b != (api.Frac{}) || e != api.ErrArg {
			t.Errorf("Neighbours(%v): %v, %v, error %d", x, a, b, e)
		}
	}
}

// The neighbours as their definition says: the nearest ones of all fractions with a lesser Den.
func TestA5NeighboursOfAll(t *testing.T) {
	l := grid(2, 12)
	for i, x := range l {
		if x.Den == 1 {
			continue
		}
		low, high := i-1, i+1
		for l[low].Den >= x.Den {
			low--
		}
		for l[high].Den >= x.Den {
			high++
		}
		if a, b, e := rule.Neighbours(x); a != l[low] || b != l[high] || e != api.OK {
			t.Fatalf("Neighbours(%v): %v, %v, error %d, want %v, %v", x, a, b, e, l[low], l[high])
		}
	}
}

// P1.3: Num and Den are the sums of those of the neighbours, and no fraction between has a Den of at most its own.
func TestP13Mediants(t *testing.T) {
	for _, x := range many() {
		if x.Den == 1 {
			continue
		}
		a, b, e := rule.Neighbours(x)
		if e != api.OK || a.Num+b.Num != x.Num || a.Den+b.Den != x.Den || rule.CheckFrac(a) != api.OK || rule.CheckFrac(b) != api.OK {
			t.Fatalf("Neighbours(%v): %v, %v, error %d", x, a, b, e)
		}
		// With these differences a fraction between x and a neighbour has at least the sum of their Dens.
		if x.Num*a.Den-a.Num*x.Den != 1 || b.Num*x.Den-x.Num*b.Den != 1 {
			t.Fatalf("Neighbours(%v): %v, %v", x, a, b)
		}
	}
	l := grid(1, 15)
	for _, x := range l {
		a, b, e := rule.Neighbours(x)
		if e != api.OK {
			continue
		}
		for _, y := range l {
			if y != x && y.Den <= x.Den && rat(a).Cmp(rat(y)) < 0 && rat(y).Cmp(rat(b)) < 0 {
				t.Fatalf("%v lies between neighbours of %v", y, x)
			}
		}
	}
}

func TestA6Around(t *testing.T) {
	x := of(314159, 100000)
	for _, y := range []struct {
		x               api.Frac
		most            int
		low, high, near api.Frac
	}{
		{x, 10, of(25, 8), of(22, 7), of(22, 7)},
		{x, 200, of(333, 106), of(355, 113), of(355, 113)},
		{x, 1, of(3, 1), of(4, 1), of(3, 1)},
		{x, 99999, of(76149, 24239), of(238010, 75761), of(238010, 75761)},
		{x, 100000, x, x, x},
		{x, 1000000, x, x, x},
		{of(-314159, 100000), 10, of(-22, 7), of(-25, 8), of(-22, 7)},
		{of(1, 2), 1, of(0, 1), of(1, 1), of(0, 1)},
		{of(-1, 2), 1, of(-1, 1), of(0, 1), of(-1, 1)},
		{of(1, 4), 2, of(0, 1), of(1, 2), of(0, 1)},
		{of(3, 4), 2, of(1, 2), of(1, 1), of(1, 1)},
		{of(-1, 4), 2, of(-1, 2), of(0, 1), of(0, 1)},
		{of(-3, 4), 2, of(-1, 1), of(-1, 2), of(-1, 1)},
		{of(5, 12), 3, of(1, 3), of(1, 2), of(1, 2)},
		{of(2, 3), 1, of(0, 1), of(1, 1), of(1, 1)},
		{of(1, 1000000), 999999, of(0, 1), of(1, 999999), of(1, 999999)},
		{of(-1, 1000000), 999999, of(-1, 999999), of(0, 1), of(-1, 999999)},
		{of(1, 1000000), 500000, of(0, 1), of(1, 500000), of(0, 1)},
		{of(1000000000, 1), 1, of(1000000000, 1), of(1000000000, 1), of(1000000000, 1)},
		{of(999999999, 1000000), 999999, of(999998999, 999999), of(1000, 1), of(999998999, 999999)},
	} {
		a, b, e := rule.Around(y.x, y.most)
		n, f := rule.Nearest(y.x, y.most)
		if a != y.low || b != y.high || n != y.near || e != api.OK || f != api.OK {
			t.Errorf("Around(%v, %d): %v, %v, %v, errors %d, %d", y.x, y.most, a, b, n, e, f)
		}
	}
}

func TestA6Wrong(t *testing.T) {
	for _, most := range []int{0, -1, 1000001, math.MinInt, math.MaxInt} {
		for _, x := range []api.Frac{of(1, 3), of(4, 1), of(1, 1000000)} {
			a, b, e := rule.Around(x, most)
			n, f := rule.Nearest(x, most)
			if a != (api.Frac{}) || b != (api.Frac{}) || n != (api.Frac{}) || e != api.ErrArg || f != api.ErrArg {
				t.Errorf("Around(%v, %d): %v, %v, %v, errors %d, %d", x, most, a, b, n, e, f)
			}
		}
	}
	for _, x := range wrong() {
		for _, most := range []int{0, 1, 1000000} {
			a, b, e := rule.Around(x, most)
			n, f := rule.Nearest(x, most)
			if a != (api.Frac{}) || b != (api.Frac{}) || n != (api.Frac{}) || e != api.ErrArg || f != api.ErrArg {
				t.Errorf("Around(%v, %d): %v, %v, %v, errors %d, %d", x, most, a, b, n, e, f)
			}
		}
	}
}

// nearerOf returns what Nearest chooses of Around's two, by the chapter's words.
func nearerOf(x, low, high api.Frac) api.Frac {
	down := new(big.Rat).Sub(rat(x), rat(low))
	up := new(big.Rat).Sub(rat(high), rat(x))
	switch down.Cmp(up) {
	case -1:
		return low
	case 1:
		return high
	}
	if high.Den < low.Den {
		return high
	}
	return low
}

// P1.4: no fraction with a Den of at most most lies between Around's two, nor nearer than Nearest.
func TestP14Nearest(t *testing.T) {
	l := grid(2, 14)
	for _, x := range l {
		for most := 1; most <= 14; most++ {
			low, high := of(-2, 1), of(2, 1)
			for _, y := range l {
				if y.Den <= most && rat(y).Cmp(rat(x)) <= 0 {
					low = y
				}
			}
			for i := len(l) - 1; i >= 0; i-- {
				if l[i].Den <= most && rat(l[i]).Cmp(rat(x)) >= 0 {
					high = l[i]
				}
			}
			a, b, e := rule.Around(x, most)
			if a != low || b != high || e != api.OK {
				t.Fatalf("Around(%v, %d): %v, %v, error %d, want %v, %v", x, most, a, b, e, low, high)
			}
			if n, e := rule.Nearest(x, most); n != nearerOf(x, low, high) || e != api.OK {
				t.Fatalf("Nearest(%v, %d): %v, error %d", x, most, n, e)
			}
		}
	}
}

func TestP14NearestDrawn(t *testing.T) {
	for _, x := range many() {
		for _, most := range []int{1, 2, 3, 10, 97, 1000, 31623, 400000, 999999, 1000000, x.Den, max(x.Den-1, 1), max(x.Den/2, 1)} {
			a, b, e := rule.Around(x, most)
			n, f := rule.Nearest(x, most)
			if e != api.OK || f != api.OK || n != nearerOf(x, a, b) {
				t.Fatalf("Nearest(%v, %d): %v of %v, %v, errors %d, %d", x, most, n, a, b, e, f)
			}
			if x.Den <= most {
				if a != x || b != x {
					t.Fatalf("Around(%v, %d): %v, %v", x, most, a, b)
				}
				continue
			}
			// With the difference 1 a fraction between the two has at least the sum of their Dens.
			if rat(a).Cmp(rat(x)) >= 0 || rat(b).Cmp(rat(x)) <= 0 || a.Den > most || b.Den > most || a.Den+b.Den <= most || b.Num*a.Den-a.Num*b.Den != 1 {
				t.Fatalf("Around(%v, %d): %v, %v", x, most, a, b)
			}
		}
	}
}
