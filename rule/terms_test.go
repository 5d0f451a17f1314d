package rule_test

import (
	"math"
	"math/big"
	"math/rand/v2"
	"slices"
	"testing"

	"strickle/api"
	"strickle/rule"
)

// termsOf returns the terms of a fraction, as the chapter says.
func termsOf(x api.Frac) []int {
	var l []int
	for rest := rat(x); ; rest.Inv(rest) {
		n := floorOf(rest)
		l = append(l, n)
		rest.Sub(rest, big.NewRat(int64(n), 1))
		if rest.Sign() == 0 {
			return l
		}
	}
}

// made returns the number that terms make, also where they end with 1.
func made(l []int) *big.Rat {
	x := big.NewRat(int64(l[len(l)-1]), 1)
	for i := len(l) - 2; i >= 0; i-- {
		x.Inv(x)
		x.Add(x, big.NewRat(int64(l[i]), 1))
	}
	return x
}

// ones returns terms that are 1, but for the first one, and the last one.
func ones(n, first, last int) []int {
	l := slices.Repeat([]int{1}, n)
	l[0], l[n-1] = first, last
	return l
}

func TestA7Terms(t *testing.T) {
	for _, x := range []struct {
		x api.Frac
		l []int
	}{
		{of(355, 113), []int{3, 7, 16}},
		{of(-7, 3), []int{-3, 1, 2}},
		{of(4, 1), []int{4}},
		{of(0, 1), []int{0}},
		{of(-4, 1), []int{-4}},
		{of(1, 2), []int{0, 2}},
		{of(-1, 2), []int{-1, 2}},
		{of(1, 1000000), []int{0, 1000000}},
		{of(-1, 1000000), []int{-1, 1, 999999}},
		{of(1000000000, 1), []int{1000000000}},
		{of(-1000000000, 1), []int{-1000000000}},
		{of(999999999, 2), []int{499999999, 2}},
		{of(514229, 832040), ones(29, 0, 2)},
	} {
		l, e := rule.Terms(x.x)
		y, f := rule.FromTerms(x.l)
		if !slices.Equal(l, x.l) || e != api.OK || y != x.x || f != api.OK {
			t.Errorf("Terms(%v): %v, %v, errors %d, %d", x.x, l, y, e, f)
		}
	}
	for _, x := range wrong() {
		if l, e := rule.Terms(x); len(l) != 0 || e != api.ErrArg {
			t.Errorf("Terms(%v): %v, error %d", x, l, e)
		}
	}
}

func TestA7FromTerms(t *testing.T) {
	for _, x := range []struct {
		l    []int
		want api.Frac
		e    api.Errno
	}{
		{nil, api.Frac{}, api.ErrArg},
		{[]int{}, api.Frac{}, api.ErrArg},
		{[]int{2, 1}, api.Frac{}, api.ErrArg},
		{[]int{0, 1, 1}, api.Frac{}, api.ErrArg},
		{[]int{1}, of(1, 1), api.OK},
		{[]int{1, 0, 2}, api.Frac{}, api.ErrArg},
		{[]int{1, 0}, api.Frac{}, api.ErrArg},
		{[]int{1, -2}, api.Frac{}, api.ErrArg},
		{[]int{1, -1, 2}, api.Frac{}, api.ErrArg},
		{[]int{1, 2, 3, 0, 5}, api.Frac{}, api.ErrArg},
		{[]int{1000000000}, of(1000000000, 1), api.OK},
		{[]int{1000000001}, api.Frac{}, api.ErrArg},
		{[]int{-1000000000}, of(-1000000000, 1), api.OK},
		{[]int{-1000000001}, api.Frac{}, api.ErrArg},
		{[]int{0, 1000000001}, api.Frac{}, api.ErrArg},
		{[]int{0, 1000000000}, api.Frac{}, api.ErrSize},
		{[]int{0, 1000001}, api.Frac{}, api.ErrSize},
		{[]int{0, 1000000}, of(1, 1000000), api.OK},
		{[]int{0, 1, 999999}, of(999999, 1000000), api.OK},
		{[]int{0, 1, 1000000}, api.Frac{}, api.ErrSize},
		{[]int{1000, 1000000}, api.Frac{}, api.ErrSize},
		{[]int{999, 1, 999999}, of(999999999, 1000000), api.OK},
		{[]int{499999999, 2}, of(999999999, 2), api.OK},
		{[]int{500000000, 2}, api.Frac{}, api.ErrSize},
		{[]int{-500000000, 2}, of(-999999999, 2), api.OK},
		{[]int{-500000001, 2}, api.Frac{}, api.ErrSize},
		{[]int{1000000000, 2}, api.Frac{}, api.ErrSize},
		{[]int{-1000000000, 1, 2}, api.Frac{}, api.ErrSize},
		{ones(40, 0, 2), api.Frac{}, api.ErrSize},
		{ones(41, 0, 2), api.Frac{}, api.ErrArg},
		{ones(29, 0, 2), of(514229, 832040), api.OK},
		{ones(30, 0, 2), api.Frac{}, api.ErrSize},
		{slices.Repeat([]int{1000000000}, 40), api.Frac{}, api.ErrSize},
		{slices.Repeat([]int{1000000000}, 41), api.Frac{}, api.ErrArg},
		{[]int{math.MinInt}, api.Frac{}, api.ErrArg},
		{[]int{math.MaxInt}, api.Frac{}, api.ErrArg},
		{[]int{0, math.MaxInt, 2}, api.Frac{}, api.ErrArg},
		{[]int{0, math.MinInt, 2}, api.Frac{}, api.ErrArg},
	} {
		before := slices.Clone(x.l)
		if y, e := rule.FromTerms(x.l); y != x.want || e != x.e {
			t.Errorf("FromTerms(%v): %v, error %d, want %v, error %d", x.l, y, e, x.want, x.e)
		}
		if !slices.Equal(before, x.l) {
			t.Errorf("FromTerms changed %v to %v", before, x.l)
		}
	}
}

// round returns terms whose Num and Den are far beyond the numbers of the machine, but in 64 bits come round to a small whole number and 1.
func round() []int {
	l := []int{-1000000000}
	for i := 1; i <= 19; i++ {
		times := 1
		switch i {
		case 18:
			times = 3259
		case 19:
			times = 3803
		}
		// The Den is 1, more multiples of 1<<64, and the sum of 1<<47 * i * times, which is 1<<64 over all i.
		l = append(l, 1<<29, times<<18)
	}
	return l
}

func TestA7FromTermsRound(t *testing.T) {
	l := round()
	num, den := 1, 0
	for i := len(l) - 1; i >= 0; i-- {
		num, den = l[i]*num+den, num
	}
	if den != 1 || num < -api.MaxNum || num > api.MaxNum {
		t.Fatalf("%v does not come round: %d/%d", l, num, den)
	}
	if x, e := rule.FromTerms(l); x != (api.Frac{}) || e != api.ErrSize {
		t.Errorf("FromTerms(%v): %v, error %d", l, x, e)
	}
}

// Also lists whose products are far beyond the numbers of the machine are told from fractions.
func TestA7FromTermsDrawn(t *testing.T) {
	r := rand.New(rand.NewPCG(5, 6))
	for range 5000 {
		l := make([]int, 1+r.IntN(1+r.IntN(40)))
		greatest := math.Log(math.Pow(10, float64(1+r.IntN(9))))
		for i := range l {
			l[i] = 1 + int(math.Exp(r.Float64()*greatest))/2
		}
		if len(l) > 1 {
			l[0] -= r.IntN(2000)
			l[len(l)-1]++
		}
		want, f := wanted(made(l))
		if x, e := rule.FromTerms(l); x != want || e != f {
			t.Fatalf("FromTerms(%v): %v, error %d, want %v, error %d", l, x, e, want, f)
		}
	}
}

func TestA7Convergents(t *testing.T) {
	for _, x := range []struct {
		x api.Frac
		l []api.Frac
	}{
		{of(355, 113), []api.Frac{of(3, 1), of(22, 7), of(355, 113)}},
		{of(-7, 3), []api.Frac{of(-3, 1), of(-2, 1), of(-7, 3)}},
		{of(4, 1), []api.Frac{of(4, 1)}},
		{of(0, 1), []api.Frac{of(0, 1)}},
		{of(2, 3), []api.Frac{of(0, 1), of(1, 1), of(2, 3)}},
		{of(-1, 1000000), []api.Frac{of(-1, 1), of(0, 1), of(-1, 1000000)}},
	} {
		if l, e := rule.Convergents(x.x); !slices.Equal(l, x.l) || e != api.OK {
			t.Errorf("Convergents(%v): %v, error %d", x.x, l, e)
		}
	}
	for _, x := range many() {
		terms := termsOf(x)
		l, e := rule.Convergents(x)
		if e != api.OK || len(l) != len(terms) || l[len(l)-1] != x {
			t.Fatalf("Convergents(%v): %v, error %d", x, l, e)
		}
		for i, y := range l {
			if want, _ := wanted(made(terms[:i+1])); y != want {
				t.Fatalf("Convergents(%v): %v at %d, want %v", x, y, i, want)
			}
		}
	}
	for _, x := range wrong() {
		if l, e := rule.Convergents(x); len(l) != 0 || e != api.ErrArg {
			t.Errorf("Convergents(%v): %v, error %d", x, l, e)
		}
	}
}

// P1.5: FromTerms inverts Terms, and the other way round.
func TestP15Terms(t *testing.T) {
	for _, x := range many() {
		l, e := rule.Terms(x)
		if !slices.Equal(l, termsOf(x)) || e != api.OK {
			t.Fatalf("Terms(%v): %v, error %d", x, l, e)
		}
		if y, e := rule.FromTerms(l); y != x || e != api.OK {
			t.Fatalf("FromTerms(%v): %v, error %d, want %v", l, y, e, x)
		}
	}
	for _, l := range [][]int{{-9, 2}, {0, 3, 1, 4}, {7, 1, 1, 1, 2}, {-1, 1, 1, 9}} {
		x, e := rule.FromTerms(l)
		if back, f := rule.Terms(x); e != api.OK || f != api.OK || !slices.Equal(back, l) {
			t.Errorf("Terms(%v): %v, want %v, errors %d, %d", x, back, l, e, f)
		}
	}
}

// P1.5: the convergents lie on both sides of x in turn, each nearer than the one before, and each one behind the first one is as near as Nearest for its Den.
func TestP15Convergents(t *testing.T) {
	for _, x := range many() {
		l, e := rule.Convergents(x)
		if e != api.OK {
			t.Fatalf("Convergents(%v): error %d", x, e)
		}
		var before *big.Rat
		for i, y := range l {
			away := new(big.Rat).Sub(rat(y), rat(x))
			side := away.Sign()
			away.Abs(away)
			if i == len(l)-1 && side != 0 || i < len(l)-1 && side != 2*(i%2)-1 {
				t.Fatalf("Convergents(%v): %v lies on the side %d", x, y, side)
			}
			if i == 0 {
				before = away
				continue
			}
			if before.Cmp(away) <= 0 {
				t.Fatalf("Convergents(%v): %v is not nearer than the one before", x, y)
			}
			before = away
			n, e := rule.Nearest(x, y.Den)
			nearest := new(big.Rat).Sub(rat(n), rat(x))
			if e != api.OK || nearest.Abs(nearest).Cmp(away) != 0 {
				t.Fatalf("Convergents(%v): %v, but the nearest one is %v, error %d", x, y, n, e)
			}
		}
	}
}
