package rule

import (
	"cmp"

	"strickle/api"
)

// ratio is a fraction on its way to a result: its Den is above 0, but a number may divide both, and both may be beyond the limits.
type ratio api.Frac

// whole returns a whole number as a ratio.
func whole(n int) ratio { return ratio{Num: n, Den: 1} }

// gap returns a number with the sign of a - b: the difference times both Dens.
func (a ratio) gap(b ratio) int { return a.Num*b.Den - b.Num*a.Den }

// plus returns a + b.
func (a ratio) plus(b ratio) ratio {
	return ratio{Num: a.Num*b.Den + b.Num*a.Den, Den: a.Den * b.Den}
}

// minus returns a - b.
func (a ratio) minus(b ratio) ratio { return ratio{Num: a.gap(b), Den: a.Den * b.Den} }

// times returns a * b.
func (a ratio) times(b ratio) ratio { return ratio{Num: a.Num * b.Num, Den: a.Den * b.Den} }

// over returns a / b, for a b that is not zero.
func (a ratio) over(b ratio) ratio {
	if b.Num < 0 {
		return ratio{Num: -a.Num * b.Den, Den: -b.Num * a.Den}
	}
	return ratio{Num: a.Num * b.Den, Den: b.Num * a.Den}
}

// floor returns the greatest whole number that is at most a.
func (a ratio) floor() int {
	n := a.Num / a.Den
	if a.Num%a.Den < 0 { // the division of numbers below 0 rounds upwards
		n--
	}
	return n
}

// ceil returns the least whole number that is at least a.
func (a ratio) ceil() int {
	opposite := ratio{Num: -a.Num, Den: a.Den}
	return -opposite.floor()
}

// divisor returns the greatest whole number that divides both.
func divisor(a, b int) int {
	for b != 0 {
		a, b = b, a%b
	}
	return max(a, -a)
}

// lowest returns a ratio in lowest terms: ErrSize if a part is too great for a fraction.
func lowest(a ratio) (x api.Frac, e api.Errno) {
	defer func() {
		if recover() != nil {
			x, e = api.Frac{}, api.ErrSize
		}
	}()
	by := divisor(a.Num, a.Den)
	part := func(n, most int) int {
		n /= by
		if n < -most || n > most {
			panic(api.ErrSize)
		}
		return n
	}
	x.Num = part(a.Num, api.MaxNum)
	x.Den = part(a.Den, api.MaxDen)
	return x, api.OK
}

// lowestTwo returns two ratios in lowest terms: ErrSize if a part of one is too great for a fraction.
func lowestTwo(a, b ratio) (x, y api.Frac, e api.Errno) {
	if x, e = lowest(a); e != api.OK {
		return api.Frac{}, api.Frac{}, e
	}
	if y, e = lowest(b); e != api.OK {
		return api.Frac{}, api.Frac{}, e
	}
	return x, y, api.OK
}

// CheckFrac returns ErrArg for a fraction that is not as the chapter says.
func CheckFrac(x api.Frac) api.Errno {
	if x.Den < 1 || x.Den > api.MaxDen || x.Num < -api.MaxNum || x.Num > api.MaxNum {
		return api.ErrArg
	}
	if divisor(x.Num, x.Den) != 1 {
		return api.ErrArg
	}
	return api.OK
}

// check returns the error of the first fraction that is not as the chapter says.
func check(fracs ...api.Frac) api.Errno {
	for _, x := range fracs {
		if e := CheckFrac(x); e != api.OK {
			return e
		}
	}
	return api.OK
}

// Of returns the fraction num divided by den: ErrSize if there is none.
func Of(num, den int) (api.Frac, api.Errno) {
	if den < 1 || den > api.MaxRaw || num < -api.MaxTop || num > api.MaxTop {
		return api.Frac{}, api.ErrArg
	}
	return lowest(ratio{Num: num, Den: den})
}

// Compare returns -1, 0 or 1, if x is less than y, equal, or greater.
func Compare(x, y api.Frac) (int, api.Errno) {
	if e := check(x, y); e != api.OK {
		return 0, e
	}
	return cmp.Compare(ratio(x).gap(ratio(y)), 0), api.OK
}

// Floor returns the greatest whole number that is at most x.
func Floor(x api.Frac) (int, api.Errno) {
	if e := check(x); e != api.OK {
		return 0, e
	}
	return ratio(x).floor(), api.OK
}

// Ceil returns the least whole number that is at least x.
func Ceil(x api.Frac) (int, api.Errno) {
	if e := check(x); e != api.OK {
		return 0, e
	}
	return ratio(x).ceil(), api.OK
}

// The four operations, as operate numbers them.
const (
	adding = iota
	subtracting
	multiplying
	dividing
)

// operate returns what an operation makes of two fractions: ErrZero for a division by zero, ErrSize if it is no fraction.
func operate(operation int, x, y api.Frac) (api.Frac, api.Errno) {
	if e := check(x, y); e != api.OK {
		return api.Frac{}, e
	}
	zero := api.Frac{Num: 0, Den: 1}
	if operation == dividing && y == zero {
		return api.Frac{}, api.ErrZero
	}
	operations := [...]func(a, b ratio) ratio{
		adding:      ratio.plus,
		subtracting: ratio.minus,
		multiplying: ratio.times,
		dividing:    ratio.over,
	}
	return lowest(operations[operation](ratio(x), ratio(y)))
}

// Add returns the sum.
func Add(x, y api.Frac) (api.Frac, api.Errno) { return operate(adding, x, y) }

// Sub returns the difference.
func Sub(x, y api.Frac) (api.Frac, api.Errno) { return operate(subtracting, x, y) }

// Mul returns the product.
func Mul(x, y api.Frac) (api.Frac, api.Errno) { return operate(multiplying, x, y) }

// Div returns the quotient: ErrZero if y is zero.
func Div(x, y api.Frac) (api.Frac, api.Errno) { return operate(dividing, x, y) }
