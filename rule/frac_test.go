package rule_test

import (
	"math"
	"math/big"
	"math/rand/v2"
	"testing"

	"strickle/api"
	"strickle/rule"
)

func TestA1CheckFrac(t *testing.T) {
	for _, x := range many() {
		if e := rule.CheckFrac(x); e != api.OK {
			t.Errorf("CheckFrac(%v): error %d", x, e)
		}
	}
	for _, x := range wrong() {
		if e := rule.CheckFrac(x); e != api.ErrArg {
			t.Errorf("CheckFrac(%v): error %d", x, e)
		}
	}
	for num := -60; num <= 60; num++ {
		for den := -2; den <= 60; den++ {
			want := api.ErrArg
			if den > 0 && new(big.Int).GCD(nil, nil, big.NewInt(int64(max(num, -num))), big.NewInt(int64(den))).Int64() == 1 {
				want = api.OK
			}
			if e := rule.CheckFrac(of(num, den)); e != want {
				t.Errorf("CheckFrac(%d/%d): error %d", num, den, e)
			}
		}
	}
}

func TestA1Of(t *testing.T) {
	for _, x := range []struct {
		num, den int
		want     api.Frac
		e        api.Errno
	}{
		{6, 8, of(3, 4), api.OK},
		{-6, 4, of(-3, 2), api.OK},
		{0, 5, of(0, 1), api.OK},
		{0, api.MaxRaw, of(0, 1), api.OK},
		{1, 1000000, of(1, 1000000), api.OK},
		{1, 1000001, api.Frac{}, api.ErrSize},
		{-1, 1000001, api.Frac{}, api.ErrSize},
		{2, 2000000, of(1, 1000000), api.OK},
		{2, 2000002, api.Frac{}, api.ErrSize},
		{1000000000, 1, of(1000000000, 1), api.OK},
		{-1000000000, 1, of(-1000000000, 1), api.OK},
		{1000000001, 1, api.Frac{}, api.ErrSize},
		{-1000000001, 1, api.Frac{}, api.ErrSize},
		{2000000000, 2, of(1000000000, 1), api.OK},
		{-2000000002, 2, api.Frac{}, api.ErrSize},
		{api.MaxRaw, api.MaxRaw, of(1, 1), api.OK},
		{1, api.MaxRaw, api.Frac{}, api.ErrSize},
		{api.MaxTop, api.MaxRaw, of(1000, 1), api.OK},
		{-api.MaxTop, api.MaxRaw, of(-1000, 1), api.OK},
		{api.MaxTop, 1000000, of(1000000000, 1), api.OK},
		{api.MaxTop, 999999, api.Frac{}, api.ErrSize},
		{api.MaxTop, 1, api.Frac{}, api.ErrSize},
		{-api.MaxTop, 1, api.Frac{}, api.ErrSize},
		{api.MaxTop + 1, api.MaxRaw, api.Frac{}, api.ErrArg},
		{-api.MaxTop - 1, api.MaxRaw, api.Frac{}, api.ErrArg},
		{1, api.MaxRaw + 1, api.Frac{}, api.ErrArg},
		{0, api.MaxRaw + 1, api.Frac{}, api.ErrArg},
		{api.MaxRaw + 1, api.MaxRaw + 1, api.Frac{}, api.ErrArg},
		{1, 0, api.Frac{}, api.ErrArg},
		{0, 0, api.Frac{}, api.ErrArg},
		{1, -1, api.Frac{}, api.ErrArg},
		{math.MinInt, 1, api.Frac{}, api.ErrArg},
		{math.MaxInt, 1, api.Frac{}, api.ErrArg},
		{1, math.MinInt, api.Frac{}, api.ErrArg},
		{1, math.MaxInt, api.Frac{}, api.ErrArg},
		{math.MinInt, math.MinInt, api.Frac{}, api.ErrArg},
	} {
		if y, e := rule.Of(x.num, x.den); y != x.want || e != x.e {
			t.Errorf("Of(%d, %d): %v, error %d", x.num, x.den, y, e)
		}
	}
}

func TestA1OfDrawn(t *testing.T) {
	r := rand.New(rand.NewPCG(3, 4))
	for range 3000 {
		by := 1 + r.IntN(1000000)
		num, den := by*(r.IntN(2000001)-1000000), by*(1+r.IntN(1000000))
		if r.IntN(8) == 0 {
			den += r.IntN(5)
		}
		want, f := wanted(big.NewRat(int64(num), int64(den)))
		if den > api.MaxRaw {
			want, f = api.Frac{}, api.ErrArg
		}
		if x, e := rule.Of(num, den); x != want || e != f {
			t.Fatalf("Of(%d, %d): %v, error %d, want %v, error %d", num, den, x, e, want, f)
		}
	}
}

func TestA2Compare(t *testing.T) {
	l := many()
	for _, x := range l {
		for _, y := range l {
			if n, e := rule.Compare(x, y); n != rat(x).Cmp(rat(y)) || e != api.OK {
				t.Fatalf("Compare(%v, %v): %d, error %d", x, y, n, e)
			}
		}
	}
	if n, e := rule.Compare(of(1, 3), of(2, 7)); n != 1 || e != api.OK {
		t.Errorf("Compare: %d, error %d", n, e)
	}
	// Two fractions that lie as near to each other as fractions can, beside the greatest numbers.
	if n, e := rule.Compare(of(999999999, 1000000), of(999998999, 999999)); n != 1 || e != api.OK {
		t.Errorf("Compare: %d, error %d", n, e)
	}
	for _, x := range wrong() {
		for _, y := range append(wrong(), of(1, 2)) {
			n, e := rule.Compare(x, y)
			m, f := rule.Compare(y, x)
			if n != 0 || e != api.ErrArg || m != 0 || f != api.ErrArg {
				t.Errorf("Compare(%v, %v): %d, %d, errors %d, %d", x, y, n, m, e, f)
			}
		}
	}
}

func TestA2FloorCeil(t *testing.T) {
	for _, x := range many() {
		low, e := rule.Floor(x)
		high, f := rule.Ceil(x)
		if low != floorOf(rat(x)) || high != ceilOf(rat(x)) || e != api.OK || f != api.OK {
			t.Errorf("Floor, Ceil(%v): %d, %d, errors %d, %d", x, low, high, e, f)
		}
	}
	for _, x := range []struct {
		x         api.Frac
		low, high int
	}{{of(-3, 2), -2, -1}, {of(3, 2), 1, 2}, {of(-4, 1), -4, -4}, {of(4, 1), 4, 4}, {of(0, 1), 0, 0}, {of(-1, 1000000), -1, 0}, {of(1, 1000000), 0, 1}} {
		low, _ := rule.Floor(x.x)
		high, _ := rule.Ceil(x.x)
		if low != x.low || high != x.high {
			t.Errorf("Floor, Ceil(%v): %d, %d", x.x, low, high)
		}
	}
	for _, x := range wrong() {
		low, e := rule.Floor(x)
		high, f := rule.Ceil(x)
		if low != 0 || high != 0 || e != api.ErrArg || f != api.ErrArg {
			t.Errorf("Floor, Ceil(%v): %d, %d, errors %d, %d", x, low, high, e, f)
		}
	}
}

// operation is a call of A3, with what the library says that it is.
type operation struct {
	name string
	do   func(x, y api.Frac) (api.Frac, api.Errno)
	want func(x, y *big.Rat) *big.Rat
}

func operations() []operation {
	return []operation{
		{"Add", rule.Add, func(x, y *big.Rat) *big.Rat { return new(big.Rat).Add(x, y) }},
		{"Sub", rule.Sub, func(x, y *big.Rat) *big.Rat { return new(big.Rat).Sub(x, y) }},
		{"Mul", rule.Mul, func(x, y *big.Rat) *big.Rat { return new(big.Rat).Mul(x, y) }},
		{"Div", rule.Div, func(x, y *big.Rat) *big.Rat { return new(big.Rat).Quo(x, y) }},
	}
}

func TestA3Operations(t *testing.T) {
	l := many()
	for _, o := range operations() {
		for _, x := range l {
			for _, y := range l {
				if o.name == "Div" && y.Num == 0 {
					continue
				}
				want, f := wanted(o.want(rat(x), rat(y)))
				if z, e := o.do(x, y); z != want || e != f {
					t.Fatalf("%s(%v, %v): %v, error %d, want %v, error %d", o.name, x, y, z, e, want, f)
				}
			}
		}
	}
}

func TestA3Examples(t *testing.T) {
	for _, x := range []struct {
		do         func(x, y api.Frac) (api.Frac, api.Errno)
		x, y, want api.Frac
		e          api.Errno
	}{
		{rule.Add, of(1, 6), of(1, 3), of(1, 2), api.OK},
		{rule.Sub, of(1, 6), of(1, 3), of(-1, 6), api.OK},
		{rule.Mul, of(2, 3), of(3, 4), of(1, 2), api.OK},
		{rule.Div, of(2, 3), of(4, 9), of(3, 2), api.OK},
		{rule.Div, of(1, 2), of(-1, 3), of(-3, 2), api.OK},
		{rule.Div, of(0, 1), of(-1, 3), of(0, 1), api.OK},
		{rule.Div, of(1, 1), of(0, 1), api.Frac{}, api.ErrZero},
		{rule.Div, of(0, 1), of(0, 1), api.Frac{}, api.ErrZero},
		{rule.Add, of(1, 999983), of(1, 999979), api.Frac{}, api.ErrSize},
		{rule.Add, of(1000000000, 1), of(1, 1), api.Frac{}, api.ErrSize},
		{rule.Add, of(1000000000, 1), of(0, 1), of(1000000000, 1), api.OK},
		{rule.Sub, of(-1000000000, 1), of(1, 1), api.Frac{}, api.ErrSize},
		{rule.Sub, of(-999999999, 1), of(1, 1), of(-1000000000, 1), api.OK},
		{rule.Mul, of(1000000000, 1), of(1000000000, 1), api.Frac{}, api.ErrSize},
		{rule.Mul, of(1, 1000), of(1, 1000), of(1, 1000000), api.OK},
		{rule.Mul, of(1, 1001), of(1, 1000), api.Frac{}, api.ErrSize},
		{rule.Div, of(1, 1), of(1000000, 1), of(1, 1000000), api.OK},
		{rule.Div, of(1, 1), of(1000001, 1), api.Frac{}, api.ErrSize},
		{rule.Div, of(1, 1), of(-1000001, 1), api.Frac{}, api.ErrSize},
	} {
		if y, e := x.do(x.x, x.y); y != x.want || e != x.e {
			t.Errorf("%v, %v: %v, error %d, want %v, error %d", x.x, x.y, y, e, x.want, x.e)
		}
	}
}

// A fraction that is not as said decides ahead of a division by zero.
func TestA3Wrong(t *testing.T) {
	for _, o := range operations() {
		for _, x := range wrong() {
			for _, y := range append(wrong(), of(0, 1), of(1, 2), of(1000000000, 1)) {
				z, e := o.do(x, y)
				w, f := o.do(y, x)
				if z != (api.Frac{}) || w != (api.Frac{}) || e != api.ErrArg || f != api.ErrArg {
					t.Errorf("%s(%v, %v): %v, %v, errors %d, %d", o.name, x, y, z, w, e, f)
				}
			}
		}
	}
}

// P1.8: Add and Mul do not depend on the order of their arguments; Sub inverts Add, and Div inverts Mul, where there are results.
func TestP18Sums(t *testing.T) {
	l := many()
	sums, products := 0, 0
	for _, x := range l {
		for _, y := range l {
			sum, e := rule.Add(x, y)
			other, f := rule.Add(y, x)
			if sum != other || e != f {
				t.Fatalf("Add(%v, %v): %v and %v", x, y, sum, other)
			}
			if back, g := rule.Sub(sum, y); e == api.OK && (back != x || g != api.OK) {
				t.Fatalf("Sub(%v, %v): %v, error %d", sum, y, back, g)
			} else if e == api.OK {
				sums++
			}
			product, e := rule.Mul(x, y)
			other, f = rule.Mul(y, x)
			if product != other || e != f {
				t.Fatalf("Mul(%v, %v): %v and %v", x, y, product, other)
			}
			if e != api.OK || y.Num == 0 {
				continue
			}
			if back, g := rule.Div(product, y); back != x || g != api.OK {
				t.Fatalf("Div(%v, %v): %v, error %d", product, y, back, g)
			}
			products++
		}
	}
	if sums < 1000 || products < 1000 {
		t.Errorf("only %d sums and %d products", sums, products)
	}
}
