package figure

import (
	"strickle/api"
	"strickle/solid"
)

// disc is a letter, and how far from the upright axis, squared, its cells are at most.
type disc struct {
	letter byte
	reach  int
}

// discs are the letters that have discs. (No cell reaches the axis.)
var discs = [...]disc{{'a', 4}, {'b', 16}, {'c', 36}, {'d', 64}, {'o', 0}}

// plane returns the cells of a disc, as a plane of a solid.
func (d disc) plane() uint64 {
	var plane uint64
	for y := range api.MaxSide {
		for x := range api.MaxSide {
			east, south := 2*x-last, 2*y-last
			if east*east+south*south <= d.reach {
				plane |= 1 << (api.MaxSide*y + x)
			}
		}
	}
	return plane
}

// letterOf returns the letter with a disc: false if there is none.
func letterOf(plane uint64) (byte, bool) {
	for _, d := range discs {
		if d.plane() == plane {
			return d.letter, true
		}
	}
	return 0, false
}

// Disc returns the disc of a letter in the plane 0: ErrWord if it has none.
func Disc(letter byte) (api.Solid, api.Errno) {
	for _, d := range discs {
		if d.letter == letter {
			return api.Solid{d.plane()}, api.OK
		}
	}
	return api.Solid{}, api.ErrWord
}

// Spun returns the spun solid of a word from a plane on: ErrArg if one of them is none, ErrWord if a letter has no disc, ErrOut if there are too few planes.
func Spun(word string, z int) (api.Solid, api.Errno) {
	if !isWord(word) || z < 0 || z > last {
		return api.Solid{}, api.ErrArg
	}
	var planes []uint64
	for i := range len(word) {
		s, e := Disc(word[i])
		if e != api.OK {
			return api.Solid{}, e
		}
		planes = append(planes, s[0])
	}
	var s api.Solid
	if len(planes) > len(s[z:]) {
		return api.Solid{}, api.ErrOut
	}
	copy(s[z:], planes)
	return s, api.OK
}

// Profile returns a word without o at its ends and a plane, of which a solid is the spun solid, and true: false if there are none.
func Profile(s api.Solid) (string, int, bool) {
	box, ok := solid.Bounds(s)
	if !ok {
		return "", 0, false
	}
	var word []byte
	for _, plane := range s[box.Low.Z : box.High.Z+1] {
		letter, ok := letterOf(plane)
		if !ok {
			return "", 0, false
		}
		word = append(word, letter)
	}
	return string(word), box.Low.Z, true
}
