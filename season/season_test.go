package season_test

import (
	"math"
	"testing"

	"strickle/api"
	"strickle/season"
)

func TestG1CheckSeason(t *testing.T) {
	good := []api.Season{{}, {Rate: 1000}, {Orders: []api.Order{}, Spares: []api.Spare{}}, chapter(), many(40, 20), many(40, 0), many(0, 20), {Orders: goodOrders(), Rate: 1000}}
	// An order and a spare may have one Id.
	good = append(good, api.Season{Orders: chapter().Orders, Spares: []api.Spare{{Id: 1, Size: 1, Wood: woodL()}, {Id: 1000000, Size: 1000000, Wood: block(8, 8, 8)}}})
	for _, s := range append(good, large(5)...) {
		if e := season.CheckSeason(s); e != api.OK {
			t.Errorf("CheckSeason(%v): error %d", s, e)
		}
	}
	for _, s := range wrongSeasons() {
		if e := season.CheckSeason(s); e != api.ErrArg {
			t.Errorf("CheckSeason(%v): error %d", s, e)
		}
	}
}

// noIds are Ids that neither an order nor a spare of the chapter's season has.
func noIds() []int { return []int{0, -1, 6, 7, 10, 1000000, math.MinInt, math.MaxInt} }

func TestG8Without(t *testing.T) {
	for i, x := range chapter().Orders {
		want := chapter()
		want.Orders = append(want.Orders[:i], want.Orders[i+1:]...)
		if s, e := season.Without(chapter(), x.Id); !sameSeason(s, want) || e != api.OK {
			t.Errorf("Without(%d): %v, error %d", x.Id, s, e)
		}
	}
	for _, id := range append(noIds(), 8, 9) {
		if s, e := season.Without(chapter(), id); !noSeason(s) || e != api.ErrNone {
			t.Errorf("Without(%d): %v, error %d", id, s, e)
		}
	}
	if s, e := season.Without(many(1, 3), 1); !sameSeason(s, many(0, 3)) || e != api.OK {
		t.Errorf("Without the only one: %v, error %d", s, e)
	}
	if s, e := season.Without(api.Season{}, 1); !noSeason(s) || e != api.ErrNone {
		t.Errorf("Without of none: %v, error %d", s, e)
	}
}

func TestG8WithoutSpare(t *testing.T) {
	for i, x := range chapter().Spares {
		want := chapter()
		want.Spares = append(want.Spares[:i], want.Spares[i+1:]...)
		if s, e := season.WithoutSpare(chapter(), x.Id); !sameSeason(s, want) || e != api.OK {
			t.Errorf("WithoutSpare(%d): %v, error %d", x.Id, s, e)
		}
	}
	for _, id := range append(noIds(), 1, 2, 3, 4, 5) {
		if s, e := season.WithoutSpare(chapter(), id); !noSeason(s) || e != api.ErrNone {
			t.Errorf("WithoutSpare(%d): %v, error %d", id, s, e)
		}
	}
	if s, e := season.WithoutSpare(many(3, 1), 1); !sameSeason(s, many(3, 0)) || e != api.OK {
		t.Errorf("WithoutSpare the only one: %v, error %d", s, e)
	}
}
