package rule

import (
	"iter"

	"strickle/api"
)

// terms yields the terms of a fraction.
func terms(x api.Frac) iter.Seq[int] {
	return func(yield func(int) bool) {
		num, den := x.Num, x.Den
		for den != 0 {
			term := ratio{Num: num, Den: den}.floor()
			if !yield(term) {
				return
			}
			num, den = den, num-term*den
		}
	}
}

// areTerms reports whether numbers are as terms are.
func areTerms(l []int) bool {
	if len(l) == 0 || len(l) > api.MaxTerms {
		return false
	}
	for i, term := range l {
		if term < -api.MaxNum || term > api.MaxNum || i > 0 && term < 1 {
			return false
		}
	}
	return len(l) == 1 || l[len(l)-1] >= 2
}

// Terms returns the terms of a fraction.
func Terms(x api.Frac) ([]int, api.Errno) {
	if e := check(x); e != api.OK {
		return nil, e
	}
	var l []int
	for term := range terms(x) {
		l = append(l, term)
	}
	return l, api.OK
}

// FromTerms returns the fraction with these terms: ErrSize if there is none.
func FromTerms(l []int) (api.Frac, api.Errno) {
	if !areTerms(l) {
		return api.Frac{}, api.ErrArg
	}
	num, den := 1, 0
	for i := len(l) - 1; i >= 0; i-- {
		// From the back on, no Den is less than the one before, and this Num is the next Den.
		if num > api.MaxDen {
			return api.Frac{}, api.ErrSize
		}
		num, den = l[i]*num+den, num
	}
	return lowest(ratio{Num: num, Den: den})
}

// Convergents returns the fractions that the first one of the terms of x makes, the first two, and so on.
func Convergents(x api.Frac) ([]api.Frac, api.Errno) {
	if e := check(x); e != api.OK {
		return nil, e
	}
	var l []api.Frac
	before, last := ratio{Num: 0, Den: 1}, ratio{Num: 1, Den: 0}
	for term := range terms(x) {
		before, last = last, ratio{Num: term*last.Num + before.Num, Den: term*last.Den + before.Den}
		l = append(l, api.Frac(last))
	}
	return l, api.OK
}
