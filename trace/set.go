package trace

import (
	"iter"
	"math/bits"
)

// set is a set of acts of a history: its bit i is the act i.
type set uint64

// only returns the set of one act.
func only(i int) set { return 1 << i }

// firstOnes returns the set of the first n acts.
func firstOnes(n int) set { return only(n) - 1 }

// has reports whether an act is in a set.
func (s set) has(i int) bool { return s>>i&1 == 1 }

// without returns the acts of a set that are not in another one.
func (s set) without(t set) set { return s &^ t }

// acts yields the acts of a set, ascending.
func (s set) acts() iter.Seq[int] {
	return func(yield func(int) bool) {
		for ; s != 0; s &= s - 1 {
			if !yield(bits.TrailingZeros64(uint64(s))) {
				return
			}
		}
	}
}

// list returns the acts of a set, ascending.
func (s set) list() []int {
	var l []int
	for i := range s.acts() {
		l = append(l, i)
	}
	return l
}
