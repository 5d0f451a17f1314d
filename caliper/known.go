package caliper

import (
	"slices"

	"strickle/api"
	"strickle/solid"
)

// told returns what readings that count tell of a pattern, also if a cell is in doubt.
func told(blank api.Solid, counting []api.Reading) api.Wood {
	w := api.Wood{Maybe: blank}
	for _, x := range counting {
		if x.Kind == api.ReadSeen {
			w.Sure = solid.Join(w.Sure, x.Cells)
		} else {
			w.Maybe = solid.Less(w.Maybe, x.Cells)
		}
	}
	return w
}

// doubted returns the cells that are in doubt.
func doubted(w api.Wood) api.Solid { return solid.Less(w.Sure, w.Maybe) }

// having returns the Ids of the readings that have a cell, in order.
func having(l []api.Reading, c api.Cell) []int {
	var ids []int
	for _, x := range l {
		if solid.Has(x.Cells, c) {
			ids = append(ids, x.Id)
		}
	}
	return ids
}

// ofKind returns the readings of a kind, in order.
func ofKind(l []api.Reading, kind uint8) []api.Reading {
	return slices.DeleteFunc(slices.Clone(l), func(x api.Reading) bool { return x.Kind != kind })
}

// Known returns what is known of a pattern on a day: ErrDoubt if a cell is in doubt.
func Known(blank api.Solid, l []api.Reading, day int) (api.Wood, api.Errno) {
	counting, e := Counting(l, day)
	if e != api.OK {
		return api.Wood{}, e
	}
	w := told(blank, counting)
	if !isEmpty(doubted(w)) {
		return api.Wood{}, api.ErrDoubt
	}
	return w, api.OK
}

// Doubt returns the first cell in doubt on a day, the Ids of the first readings that say that it is wood and that it is not, and whether there is such a cell.
func Doubt(blank api.Solid, l []api.Reading, day int) (api.Cell, []int, bool, api.Errno) {
	counting, e := Counting(l, day)
	if e != api.OK {
		return api.Cell{}, nil, false, e
	}
	cells := solid.Cells(doubted(told(blank, counting)))
	if len(cells) == 0 {
		return api.Cell{}, nil, false, api.OK
	}
	c := cells[0]
	seen := having(ofKind(counting, api.ReadSeen), c)
	ids := []int{seen[0]}
	// Beyond the blank there is no wood, whatever was seen or not.
	if solid.Has(blank, c) {
		bare := having(ofKind(counting, api.ReadBare), c)
		ids = append(ids, bare[0])
	}
	return c, ids, true, api.OK
}

// Rests returns, ascending, the Ids of all readings that count on a day and have a cell: ErrArg if it is not in the grid.
func Rests(blank api.Solid, l []api.Reading, day int, c api.Cell) ([]int, api.Errno) {
	counting, e := Counting(l, day)
	if e != api.OK {
		return nil, e
	}
	if _, e := solid.Of([]api.Cell{c}); e != api.OK {
		return nil, api.ErrArg
	}
	ids := having(counting, c)
	slices.Sort(ids)
	return ids, api.OK
}

// differing returns the cells that are in just one of two solids.
func differing(a, b api.Solid) api.Solid { return solid.Join(solid.Less(a, b), solid.Less(b, a)) }

// Reached returns the cells of which something else is known, on the day of a reading, with this one behind the sheet than without it: the error of Append.
func Reached(blank api.Solid, l []api.Reading, x api.Reading) (api.Solid, api.Errno) {
	longer, e := Append(l, x)
	if e != api.OK {
		return api.Solid{}, e
	}
	// Both are sheets: the longer one was checked.
	before, _ := Counting(l, x.Known)
	after, _ := Counting(longer, x.Known)
	v, w := told(blank, before), told(blank, after)
	return solid.Join(differing(v.Sure, w.Sure), differing(v.Maybe, w.Maybe)), api.OK
}
