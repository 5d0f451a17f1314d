package rule_test

import (
	"math"
	"math/big"
	"math/rand/v2"
	"slices"

	"strickle/api"
	"strickle/rule"
)

// of returns the fraction num/den, as it stands.
func of(num, den int) api.Frac { return api.Frac{Num: num, Den: den} }

// shrink returns the rule from a/b to c/d, as it stands.
func shrink(a, b, c, d int) api.Rule { return api.Rule{Least: of(a, b), Most: of(c, d)} }

// rat returns a fraction as the library's own kind, whose results the tests trust.
func rat(x api.Frac) *big.Rat { return big.NewRat(int64(x.Num), int64(x.Den)) }

// wanted returns what the document says of a number that a call returns as a fraction.
func wanted(x *big.Rat) (api.Frac, api.Errno) {
	if !x.Num().IsInt64() || !x.Denom().IsInt64() {
		return api.Frac{}, api.ErrSize
	}
	num, den := x.Num().Int64(), x.Denom().Int64()
	if den > api.MaxDen || num > api.MaxNum || num < -api.MaxNum {
		return api.Frac{}, api.ErrSize
	}
	return of(int(num), int(den)), api.OK
}

// floorOf returns the greatest whole number that is at most x.
func floorOf(x *big.Rat) int {
	// Div rounds down where the divisor is above 0.
	return int(new(big.Int).Div(x.Num(), x.Denom()).Int64())
}

// ceilOf returns the least whole number that is at least x.
func ceilOf(x *big.Rat) int { return -floorOf(new(big.Rat).Neg(x)) }

// ascending sorts fractions and leaves each one once.
func ascending(l []api.Frac) []api.Frac {
	slices.SortFunc(l, func(x, y api.Frac) int { return rat(x).Cmp(rat(y)) })
	return slices.Compact(l)
}

// grid returns, ascending, all fractions from -bound to bound with a Den of at most most.
func grid(bound, most int) []api.Frac {
	var l []api.Frac
	for den := 1; den <= most; den++ {
		for num := -bound * den; num <= bound*den; num++ {
			if x := of(num, den); rule.CheckFrac(x) == api.OK {
				l = append(l, x)
			}
		}
	}
	return ascending(l)
}

// edges are fractions at the limits.
func edges() []api.Frac {
	return []api.Frac{
		of(0, 1), of(1, 1), of(-1, 1), of(1, 2), of(-1, 2), of(-3, 2), of(4, 1),
		of(1000000000, 1), of(-1000000000, 1), of(999999999, 1), of(-999999999, 1), of(999999999, 2), of(-999999999, 2),
		of(1, 1000000), of(-1, 1000000), of(1, 999999), of(999999, 1000000), of(999998, 999999), of(-999999, 1000000),
		of(999999999, 1000000), of(-999999999, 1000000), of(1000000000, 999999), of(-1000000000, 999999), of(999999937, 999983),
		of(514229, 832040), of(-514229, 832040), of(1346269, 832040), of(31622, 999999), of(1, 31622), of(707107, 1000000),
	}
}

// drawn returns n fractions of all magnitudes, the same ones each time.
func drawn(n int) []api.Frac {
	r := rand.New(rand.NewPCG(1, 2))
	var l []api.Frac
	for len(l) < n {
		num := int(math.Exp(r.Float64() * math.Log(api.MaxNum)))
		den := int(math.Exp(r.Float64() * math.Log(api.MaxDen)))
		if r.IntN(2) == 0 {
			num = -num
		}
		if x, e := rule.Of(num, den); e == api.OK {
			l = append(l, x)
		}
	}
	return l
}

// many returns fractions at the limits, small ones, and drawn ones.
func many() []api.Frac {
	return slices.Concat(edges(), grid(2, 5), drawn(150))
}

// wrong are fractions that are not as the chapter says.
func wrong() []api.Frac {
	return []api.Frac{
		{}, of(1, 0), of(1, -1), of(-1, -2), of(2, 4), of(-2, 4), of(0, 2), of(3, 3), of(0, -1), of(999999, 999),
		of(1000000001, 1), of(-1000000001, 1), of(1, 1000001), of(-1, 1000001), of(0, 1000001),
		of(math.MinInt, 1), of(math.MaxInt, 1), of(1, math.MinInt), of(1, math.MaxInt), of(math.MinInt, math.MinInt), of(math.MaxInt, math.MaxInt), of(math.MinInt, 1000000),
	}
}

// rules are rules, some of them at the limits.
func rules() []api.Rule {
	return []api.Rule{
		shrink(1, 100, 1, 50), shrink(0, 1, 0, 1), shrink(0, 1, 1, 4), shrink(1, 4, 1, 4), shrink(1, 1000, 1, 4), shrink(249, 1000, 249, 1000),
		shrink(1, 60, 1, 40), shrink(1, 10, 1, 10), shrink(1, 5, 1, 5), shrink(0, 1, 1, 1000), shrink(1, 999, 1, 998), shrink(7, 997, 248, 993), shrink(1, 6, 1, 5), shrink(3, 128, 5, 128),
	}
}

// wrongRules are rules that are not as the chapter says.
func wrongRules() []api.Rule {
	l := []api.Rule{
		{}, shrink(1, 50, 1, 100), shrink(0, 1, 1, 3), shrink(0, 1, 251, 1000), shrink(1, 3, 1, 3), shrink(-1, 100, 1, 100), shrink(-1, 4, 0, 1), shrink(-1, 4, -1, 5),
		shrink(1, 1001, 1, 100), shrink(0, 1, 1, 1001), shrink(1, 1001, 1, 1001), shrink(0, 1, 1, 1), shrink(1, 4, 1, 5), shrink(1, 1000000, 1, 4),
	}
	for _, x := range wrong() {
		l = append(l, api.Rule{Least: of(0, 1), Most: x}, api.Rule{Least: x, Most: of(1, 4)}, api.Rule{Least: x, Most: x})
	}
	return l
}

// wrongSizes are numbers that are no sizes.
func wrongSizes() []int {
	return []int{0, -1, -1000000, 1000001, math.MinInt, math.MaxInt}
}

// measures returns the least and the greatest measure of a casting, by the chapter's formula.
func measures(r api.Rule, size int) (low, high *big.Rat) {
	one, n := big.NewRat(1, 1), big.NewRat(int64(size), 1)
	low = new(big.Rat).Sub(one, rat(r.Most))
	high = new(big.Rat).Sub(one, rat(r.Least))
	return low.Mul(low, n), high.Mul(high, n)
}

// serves reports whether all castings of a size measure from low to high.
func serves(r api.Rule, size, low, high int) bool {
	least, most := measures(r, size)
	return least.Cmp(big.NewRat(int64(low), 1)) >= 0 && most.Cmp(big.NewRat(int64(high), 1)) <= 0
}

// missOf returns the miss of a size for a wanted one, by the chapter's words.
func missOf(r api.Rule, size, want int) *big.Rat {
	low, high := measures(r, size)
	w := big.NewRat(int64(want), 1)
	low.Sub(low, w).Abs(low)
	high.Sub(high, w).Abs(high)
	if low.Cmp(high) > 0 {
		return low
	}
	return high
}
