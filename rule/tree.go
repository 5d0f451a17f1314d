package rule

import "strickle/api"

// between returns the fraction that stands between two neighbours in the tree of fractions.
func (a ratio) between(b ratio) ratio {
	return ratio{Num: a.Num + b.Num, Den: a.Den + b.Den}
}

// towards returns a, moved towards its neighbour b by all steps of the tree that leave it on its own side of x, with a Den of at most most.
func (a ratio) towards(b, x ratio, most int) ratio {
	far, near := x.gap(a), b.gap(x)
	if far < 0 {
		far, near = -far, -near
	}
	steps := min((far-1)/near, (most-a.Den)/b.Den)
	return ratio{Num: a.Num + steps*b.Num, Den: a.Den + steps*b.Den}
}

// search goes down the tree of fractions to a range in which there is no whole number. It returns the last two neighbours outside of the range: the fraction between them is the simplest one of the range, or its Den is above most.
func search(low, high ratio, most int) (below, above ratio) {
	below = whole(low.floor())
	above = whole(low.floor() + 1)
descent:
	for {
		middle := below.between(above)
		switch {
		case middle.Den > most:
			break descent
		case middle.gap(low) < 0:
			below = below.towards(above, low, most)
		case middle.gap(high) > 0:
			above = above.towards(below, high, most)
		default:
			break descent
		}
	}
	return below, above
}

// wholeIn returns the whole number of a range that is nearest to 0, and whether there is one.
func wholeIn(low, high ratio) (int, bool) {
	least, most := low.ceil(), high.floor()
	if least > most {
		return 0, false
	}
	return max(least, min(most, 0)), true
}

// Simplest returns the simplest of all fractions from low to high: ErrOrder if low is greater than high.
func Simplest(low, high api.Frac) (api.Frac, api.Errno) {
	if e := check(low, high); e != api.OK {
		return api.Frac{}, e
	}
	from, to := ratio(low), ratio(high)
	if from.gap(to) > 0 {
		return api.Frac{}, api.ErrOrder
	}
	if n, ok := wholeIn(from, to); ok {
		return api.Frac(whole(n)), api.OK
	}
	below, above := search(from, to, api.MaxDen)
	return api.Frac(below.between(above)), api.OK
}

// CheckSimplest reports whether x is the simplest of all fractions from low to high: ErrOrder if low is greater than high.
func CheckSimplest(low, high, x api.Frac) (bool, api.Errno) {
	if e := check(low, high, x); e != api.OK {
		return false, e
	}
	from, to := ratio(low), ratio(high)
	if from.gap(to) > 0 {
		return false, api.ErrOrder
	}
	if x.Den == 1 {
		n, ok := wholeIn(from, to)
		return ok && n == x.Num, api.OK
	}
	inside := from.gap(ratio(x)) <= 0 && ratio(x).gap(to) <= 0
	// A fraction between the neighbours of x has no lesser Den, and with the same Den there is only x.
	below, above := neighbours(x)
	return inside && below.gap(from) < 0 && above.gap(to) > 0, api.OK
}

// neighbours returns the neighbours of a fraction that is no whole number.
func neighbours(x api.Frac) (below, above ratio) {
	// The lower one, a/b, is the one with Num * b - Den * a = 1, so b inverts Num but for multiples of Den.
	b := inverse(x.Num, x.Den)
	a := (x.Num*b - 1) / x.Den
	return ratio{Num: a, Den: b}, ratio{Num: x.Num - a, Den: x.Den - b}
}

// inverse returns the number from 1 to m-1 by which n times it is 1 more than a multiple of m, for an m above 1 that has no divisor in common with n.
func inverse(n, m int) int {
	before, rest := m, (n%m+m)%m
	coefficientBefore, coefficient := 0, 1
	for rest != 0 {
		times := before / rest
		before, rest = rest, before-times*rest
		coefficientBefore, coefficient = coefficient, coefficientBefore-times*coefficient
	}
	return (coefficientBefore + m) % m
}

// Neighbours returns the neighbours of a fraction: ErrWhole for a whole number.
func Neighbours(x api.Frac) (low, high api.Frac, e api.Errno) {
	if e = check(x); e != api.OK {
		return api.Frac{}, api.Frac{}, e
	}
	if x.Den == 1 {
		return api.Frac{}, api.Frac{}, api.ErrWhole
	}
	below, above := neighbours(x)
	return api.Frac(below), api.Frac(above), api.OK
}

// Around returns the greatest fraction that is at most x and the least one that is at least x, of those with a Den of at most most.
func Around(x api.Frac, most int) (low, high api.Frac, e api.Errno) {
	if e = check(x); e != api.OK {
		return api.Frac{}, api.Frac{}, e
	}
	if most < 1 || most > api.MaxDen {
		return api.Frac{}, api.Frac{}, api.ErrArg
	}
	if x.Den <= most {
		return x, x, api.OK
	}
	below, above := search(ratio(x), ratio(x), most)
	return api.Frac(below), api.Frac(above), api.OK
}

// Nearest returns the one of Around's two that is nearer to x; of two that are as near the one with the lesser Den, then the lesser one.
func Nearest(x api.Frac, most int) (api.Frac, api.Errno) {
	low, high, e := Around(x, most)
	if e != api.OK {
		return api.Frac{}, e
	}
	down := ratio(x).minus(ratio(low))
	up := ratio(high).minus(ratio(x))
	nearer := up.gap(down)
	if nearer < 0 || nearer == 0 && high.Den < low.Den {
		return high, api.OK
	}
	return low, api.OK
}
