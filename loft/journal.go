package loft

import (
	"iter"
	"slices"
	"strings"

	"strickle/api"
)

// The journal is pieces one behind the other, each one text in as many sectors as it needs. The last byte of a sector says whether the piece goes on; it is 0 in a sector that was not written as a whole, since all sectors behind the journal are empty when it grows.
const (
	room     = api.SectorSize - 1
	goesOn   = 1
	endsHere = 2
)

// pieces yields the pieces of the journal on a disk, each with the sector behind it.
func (d *Disk) pieces() iter.Seq2[int, string] {
	return func(yield func(int, string) bool) {
		var text []byte
		for at := range d.durable {
			s := d.last(at)
			if s[room] != goesOn && s[room] != endsHere {
				return
			}
			text = append(text, s[:room]...)
			if s[room] == goesOn {
				continue
			}
			if !yield(at+1, strings.TrimRight(string(text), "\x00")) {
				return
			}
			text = nil
		}
	}
}

// sectorsOf returns the sectors of a piece.
func sectorsOf(text string) []sector {
	var l []sector
	for part := range slices.Chunk([]byte(text), room) {
		var s sector
		copy(s[:], part)
		s[room] = goesOn
		l = append(l, s)
	}
	l[len(l)-1][room] = endsHere
	return l
}

// put writes a piece from a sector on, and returns the sector behind it: ErrFull if it has no room, and the error of the disk.
func (d *Disk) put(at int, text string) (int, api.Errno) {
	l := sectorsOf(text)
	if at+len(l) > len(d.durable) {
		return 0, api.ErrFull
	}
	for i, s := range l {
		if e := d.Write(at+i, s[:]); e != api.OK {
			return 0, e
		}
	}
	return at + len(l), d.Flush()
}

// isEmpty reports whether all sectors from one on are empty.
func (d *Disk) isEmpty(from int) bool {
	for at := from; at < len(d.durable); at++ {
		if d.last(at) != (sector{}) {
			return false
		}
	}
	return true
}

// wipe empties all sectors from one on: what a torn piece left must not become whole by what is written over it.
func (d *Disk) wipe(from int) api.Errno {
	if d.isEmpty(from) {
		return api.OK
	}
	for at := from; at < len(d.durable); at++ {
		if d.last(at) == (sector{}) {
			continue
		}
		if e := d.Write(at, nil); e != api.OK {
			return e
		}
	}
	return d.Flush()
}
