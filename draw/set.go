package draw

import (
	"cmp"
	"iter"
	"math/bits"
	"slices"
)

// set is a set of pieces: its bit p is the piece p.
type set uint16

// only returns the set of one piece.
func only(p int) set { return 1 << p }

// has reports whether a piece is in a set.
func (s set) has(p int) bool { return s>>p&1 == 1 }

// with returns a set with a piece.
func (s set) with(p int) set { return s | only(p) }

// without returns the pieces of a set that are not in another one.
func (s set) without(t set) set { return s &^ t }

// in reports whether all pieces of a set are in another one.
func (s set) in(t set) bool { return s&^t == 0 }

// count returns the number of pieces.
func (s set) count() int { return bits.OnesCount16(uint16(s)) }

// least returns the least piece of a set that is not empty.
func (s set) least() int { return bits.TrailingZeros16(uint16(s)) }

// list returns the pieces of a set, ascending.
func (s set) list() []int {
	var l []int
	for ; s != 0; s &= s - 1 {
		l = append(l, s.least())
	}
	return l
}

// parts yields all sets whose pieces are in a set, by how many they have, then element by element.
func (s set) parts() iter.Seq[set] {
	return func(yield func(set) bool) {
		l := s.list()
		var choose func(chosen set, from, more int) bool
		choose = func(chosen set, from, more int) bool {
			if more == 0 {
				return yield(chosen)
			}
			for i := from; i+more <= len(l); i++ {
				if !choose(chosen.with(l[i]), i+1, more-1) {
					return false
				}
			}
			return true
		}
		for n := range len(l) + 1 {
			if !choose(0, 0, n) {
				return
			}
		}
	}
}

// compare compares sets by how many pieces they have, then element by element: it returns a number below 0, 0 or one above 0.
func (s set) compare(t set) int {
	return cmp.Or(cmp.Compare(s.count(), t.count()), slices.Compare(s.list(), t.list()))
}

// sorted sorts a list of values, which compare themselves with each other.
func sorted[T interface{ compare(T) int }](l []T) []T {
	slices.SortFunc(l, T.compare)
	return l
}
