package rule_test

import (
	"math"
	"slices"
	"testing"

	"strickle/api"
	"strickle/rule"
)

// P1.1 with rule R1: no call panics or goes on for ever, whatever the fields of its arguments are, and a wrong fraction is always told.
func TestP11AnyArguments(t *testing.T) {
	numbers := []int{math.MinInt, math.MinInt + 1, -1, 0, 1, 2, 1000000, 1000001, math.MaxInt}
	for _, a := range numbers {
		for _, b := range numbers {
			rule.Of(a, b)
			for _, c := range numbers {
				x, y := of(a, b), of(c, a)
				good := rule.CheckFrac(x) == api.OK
				for _, e := range endsWith(x, y, c) {
					if !good && e != api.ErrArg {
						t.Fatalf("%v, %v, %d: error %d", x, y, c, e)
					}
				}
				rule.FromTerms([]int{a, b, c})
			}
		}
	}
}

// endsWith returns the errors of all calls with a fraction, another one and a number.
func endsWith(x, y api.Frac, n int) []api.Errno {
	var l []api.Errno
	_, e := rule.Compare(x, y)
	l = append(l, e)
	_, e = rule.Floor(x)
	l = append(l, e)
	_, e = rule.Ceil(x)
	l = append(l, e)
	for _, o := range operations() {
		_, e = o.do(x, y)
		l = append(l, e)
	}
	_, e = rule.Simplest(x, y)
	l = append(l, e)
	_, e = rule.CheckSimplest(y, y, x)
	l = append(l, e)
	_, _, e = rule.Neighbours(x)
	l = append(l, e)
	_, _, e = rule.Around(x, n)
	l = append(l, e)
	_, e = rule.Nearest(x, n)
	l = append(l, e)
	_, e = rule.Terms(x)
	l = append(l, e)
	_, e = rule.Convergents(x)
	l = append(l, e)
	_, e = rule.Write(x)
	l = append(l, e)
	r := api.Rule{Least: x, Most: y}
	l = append(l, rule.CheckRule(r))
	_, _, e = rule.Cast(r, n)
	l = append(l, e)
	_, _, _, e = rule.Sizes(r, n, n)
	l = append(l, e)
	_, e = rule.Miss(r, n, n)
	l = append(l, e)
	_, e = rule.Best(r, n)
	l = append(l, e)
	_, e = rule.Twice(r, r)
	l = append(l, e)
	_, e = rule.Both(r, r)
	return append(l, e)
}

// P1.1 with rules R3 and R4: results are new memory, and a call returns the same each time.
func TestP11NewMemory(t *testing.T) {
	x := of(355, 113)
	for range 3 {
		terms, e := rule.Terms(x)
		convergents, f := rule.Convergents(x)
		if e != api.OK || f != api.OK || !slices.Equal(terms, []int{3, 7, 16}) || !slices.Equal(convergents, []api.Frac{of(3, 1), of(22, 7), x}) {
			t.Fatalf("Terms, Convergents(%v): %v, %v, errors %d, %d", x, terms, convergents, e, f)
		}
		clear(terms)
		clear(convergents)
	}
}

// T1: the simplest fraction of a range is shown by its neighbours; a size serves exactly if its castings lie in the range whatever the shrink is.
func TestT1(t *testing.T) {
	x, e := rule.Simplest(of(31, 100), of(8, 25))
	if x != of(5, 16) || e != api.OK {
		t.Errorf("Simplest: %v, error %d", x, e)
	}
	if low, high, e := rule.Neighbours(x); low != of(4, 13) || high != of(1, 3) || e != api.OK {
		t.Errorf("Neighbours: %v, %v, error %d", low, high, e)
	}
	r := shrink(1, 100, 1, 50)
	least, most, ok, e := rule.Sizes(r, 980, 990)
	if least != 1000 || most != 1000 || !ok || e != api.OK {
		t.Errorf("Sizes: %d, %d, %v, error %d", least, most, ok, e)
	}
	for _, x := range [][2]int{{975, 1000}, {980, 990}, {980, 989}, {333, 350}} {
		least, most, ok, e := rule.Sizes(r, x[0], x[1])
		for size := 1; size <= 1100; size++ {
			all := true
			for per := 100; per <= 200 && all; per++ { // shrinks of the rule, from 100/10000 to 200/10000
				casting := size * (10000 - per)
				all = x[0]*10000 <= casting && casting <= x[1]*10000
			}
			if in := ok && least <= size && size <= most; in != all || e != api.OK {
				t.Fatalf("Sizes(%v): %d, %d, %v, error %d, but the size %d", x, least, most, ok, e, size)
			}
		}
	}
}
