package plank

import (
	"iter"
	"math/bits"

	"strickle/api"
)

// Boxes returns the width and the height of the rectangle round a solid, once for each plane from its lowest to its highest one.
func Boxes(x api.Solid) [][2]int {
	low, high := len(x), 0
	shadow := uint64(0)
	for z, plane := range x {
		if plane != 0 {
			low, high = min(low, z), z+1
			shadow |= plane
		}
	}
	var l [][2]int
	for range high - low {
		l = append(l, around(shadow))
	}
	return l
}

// around returns the width and the height of the least rectangle that contains the cells of a plane that has some.
func around(plane uint64) [2]int {
	row := uint8(0)
	for y := range api.MaxSide {
		row |= uint8(plane >> (y * api.MaxSide))
	}
	first, last := bits.TrailingZeros64(plane)/api.MaxSide, (bits.Len64(plane)-1)/api.MaxSide
	return [2]int{bits.Len8(row) - bits.TrailingZeros8(row), last - first + 1}
}

// large yields the kinds whose planks are large enough for a rectangle.
func large(s api.Saw, box [2]int) iter.Seq[int] {
	return func(yield func(int) bool) {
		for i, k := range s.Kinds {
			fits := k.W >= box[0] && k.H >= box[1] || k.Turn && k.H >= box[0] && k.W >= box[1]
			if fits && !yield(i) {
				return
			}
		}
	}
}

// Timber returns the kind with the least Worth that is large enough for each of the Boxes, and the sum of their Worths: ErrArg for an empty solid, ErrWood if no kind is large enough.
func Timber(s api.Saw, x api.Solid) (kinds []int, worth int, e api.Errno) {
	if e := CheckSaw(s); e != api.OK {
		return nil, 0, e
	}
	if x == (api.Solid{}) {
		return nil, 0, api.ErrArg
	}
	for _, box := range Boxes(x) {
		kind, below, ok := greatest(large(s, box), func(i int) (int, bool) { return -s.Kinds[i].Worth, true })
		if !ok {
			return nil, 0, api.ErrWood
		}
		kinds = append(kinds, kind)
		worth -= below
	}
	return kinds, worth, api.OK
}
