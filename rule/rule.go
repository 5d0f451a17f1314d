// Package rule is layer 1: exact fractions, the simplest and the nearest ones, and the shrink rules of metals. See shared/doc/01-rule.md.
package rule

import "strickle/api"

// asked is what is asked of a casting: the least and the greatest whole number that it may measure. Where one size is wanted, it is both.
type asked struct{ low, high int }

// short reports whether a casting measures less than it may.
func (a asked) short(casting ratio) bool { return casting.gap(whole(a.low)) < 0 }

// long reports whether a casting measures more than it may.
func (a asked) long(casting ratio) bool { return casting.gap(whole(a.high)) > 0 }

// worst returns by how much castings from least to most go beyond what is asked, at the end where they go further.
func (a asked) worst(least, most ratio) ratio {
	below := whole(a.low).minus(least)
	above := most.minus(whole(a.high))
	if below.gap(above) < 0 {
		return above
	}
	return below
}

// task is a rule with what is asked of its castings.
type task struct {
	api.Rule
	asked
}

// castings returns the least and the greatest measure of a casting of a pattern of a size.
func (t task) castings(size int) (least, most ratio) {
	least = whole(size).times(left(t.Most))
	most = whole(size).times(left(t.Least))
	return least, most
}

// miss returns the miss of a size, if one size is wanted.
func (t task) miss(size int) ratio { return t.worst(t.castings(size)) }

// left returns what part of a size a shrink leaves.
func left(shrink api.Frac) ratio { return whole(1).minus(ratio(shrink)) }

// first returns the least number from low on, below high, for which ok is true, or high if there is none: ok must be true for all numbers above one for which it is.
func first[N ~int](low, high N, ok func(N) bool) N {
	for low < high {
		middle := low + (high-low)/2
		if ok(middle) {
			high = middle
		} else {
			low = middle + 1
		}
	}
	return low
}

// isSize reports whether all numbers are sizes.
func isSize(sizes ...int) bool {
	for _, n := range sizes {
		if n < 1 || n > api.MaxSize {
			return false
		}
	}
	return true
}

// CheckRule returns ErrArg for a rule that is not as the chapter says.
func CheckRule(r api.Rule) api.Errno {
	if e := check(r.Least, r.Most); e != api.OK {
		return e
	}
	most := ratio{Num: 1, Den: 4}
	if r.Least.Den > api.MaxPart || r.Most.Den > api.MaxPart || r.Least.Num < 0 || ratio(r.Least).gap(ratio(r.Most)) > 0 || ratio(r.Most).gap(most) > 0 {
		return api.ErrArg
	}
	return api.OK
}

// checkRules returns the error of the first rule that is not as the chapter says.
func checkRules(rules ...api.Rule) api.Errno {
	for _, r := range rules {
		if e := CheckRule(r); e != api.OK {
			return e
		}
	}
	return api.OK
}

// checkTask returns ErrArg unless a rule and sizes are as the chapter says.
func checkTask(r api.Rule, sizes ...int) api.Errno {
	if e := CheckRule(r); e != api.OK {
		return e
	}
	if !isSize(sizes...) {
		return api.ErrArg
	}
	return api.OK
}

// Cast returns the least and the greatest measure of a casting of a pattern of a size.
func Cast(r api.Rule, size int) (low, high api.Frac, e api.Errno) {
	if e = checkTask(r, size); e != api.OK {
		return api.Frac{}, api.Frac{}, e
	}
	least, most := task{Rule: r}.castings(size)
	return lowestTwo(least, most)
}

// Sizes returns the least and the greatest size whose castings measure from low to high, whatever the shrink is, and whether there is one.
func Sizes(r api.Rule, low, high int) (least, most int, ok bool, e api.Errno) {
	if e = checkTask(r, low, high); e != api.OK {
		return 0, 0, false, e
	}
	if low > high {
		return 0, 0, false, api.ErrOrder
	}
	t := task{Rule: r, asked: asked{low: low, high: high}}
	least = first(1, api.MaxSize+1, func(size int) bool {
		shortest, _ := t.castings(size)
		return !t.short(shortest)
	})
	most = first(1, api.MaxSize+1, func(size int) bool {
		_, longest := t.castings(size)
		return t.long(longest)
	}) - 1
	if least > most {
		return 0, 0, false, api.OK
	}
	return least, most, true, api.OK
}

// Miss returns how far a casting of a pattern of a size may be from the wanted size.
func Miss(r api.Rule, size, want int) (api.Frac, api.Errno) {
	if e := checkTask(r, size, want); e != api.OK {
		return api.Frac{}, e
	}
	t := task{Rule: r, asked: asked{low: want, high: want}}
	return lowest(t.miss(size))
}

// Best returns the size whose miss is least, of two the lesser one.
func Best(r api.Rule, want int) (int, api.Errno) {
	if e := checkTask(r, want); e != api.OK {
		return 0, e
	}
	t := task{Rule: r, asked: asked{low: want, high: want}}
	// With the size, the miss first falls and then rises: once it does not fall any more, it never does again.
	return first(1, api.MaxSize, func(size int) bool {
		return t.miss(size).gap(t.miss(size+1)) <= 0
	}), api.OK
}

// Twice returns the rule of a casting that is itself the pattern of another one: ErrSize if it is no rule.
func Twice(r, q api.Rule) (api.Rule, api.Errno) {
	if e := checkRules(r, q); e != api.OK {
		return api.Rule{}, e
	}
	least, most, e := lowestTwo(shrinkOfBoth(r.Least, q.Least), shrinkOfBoth(r.Most, q.Most))
	if e != api.OK {
		return api.Rule{}, e
	}
	twice := api.Rule{Least: least, Most: most}
	if CheckRule(twice) != api.OK {
		return api.Rule{}, api.ErrSize
	}
	return twice, api.OK
}

// shrinkOfBoth returns by how much a size shrinks by two shrinks, one behind the other.
func shrinkOfBoth(a, b api.Frac) ratio { return whole(1).minus(left(a).times(left(b))) }

// Both returns the rule with all shrinks that are in both: ErrNone if there is none.
func Both(r, q api.Rule) (api.Rule, api.Errno) {
	if e := checkRules(r, q); e != api.OK {
		return api.Rule{}, e
	}
	both := r
	if ratio(q.Least).gap(ratio(r.Least)) > 0 {
		both.Least = q.Least
	}
	if ratio(q.Most).gap(ratio(r.Most)) < 0 {
		both.Most = q.Most
	}
	if ratio(both.Least).gap(ratio(both.Most)) > 0 {
		return api.Rule{}, api.ErrNone
	}
	return both, api.OK
}
