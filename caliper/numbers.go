package caliper

import (
	"strickle/api"
	"strickle/season"
)

// stocked returns a season in which the spares have other woods: without those whose wood has no cell.
func stocked(s api.Season, w []api.Wood, wood func(api.Wood) api.Solid) api.Season {
	var spares []api.Spare
	for k, x := range s.Spares {
		x.Wood = wood(w[k])
		if !isEmpty(x.Wood) {
			spares = append(spares, x)
		}
	}
	s.Spares = spares
	return s
}

// Numbers returns the least numbers of new patterns of a season whose spares have all cells that they may have, and no cells but those that they surely have: ErrArg if the woods are not as the chapter says, then the error of season.CheckSeason.
func Numbers(s api.Season, w []api.Wood) (least, greatest int, e api.Errno) {
	if len(w) != len(s.Spares) {
		return 0, 0, api.ErrArg
	}
	for _, x := range w {
		if !isWood(x) || isEmpty(x.Maybe) {
			return 0, 0, api.ErrArg
		}
	}
	least, e = season.Least(stocked(s, w, func(x api.Wood) api.Solid { return x.Maybe }))
	if e != api.OK {
		return 0, 0, e
	}
	// What is right with these spares is right with some of them.
	greatest, _ = season.Least(stocked(s, w, func(x api.Wood) api.Solid { return x.Sure }))
	return least, greatest, api.OK
}
