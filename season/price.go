package season

import (
	"slices"

	"strickle/api"
)

// Prices returns right prices whose bound is that of a cheapest plan with the least number.
func Prices(s api.Season) (api.Prices, api.Errno) {
	w, e := woven(s)
	if e != api.OK {
		return api.Prices{}, e
	}
	d := w.cheapest()
	var p api.Prices
	for _, x := range s.Orders {
		j := d.orders[x.Id]
		p.Serve = append(p.Serve, d.price(j))
		p.Leave = append(p.Leave, d.saves[j])
	}
	for _, x := range s.Spares {
		k := d.spares[x.Id]
		p.Start = append(p.Start, d.saves[d.spare(k)])
	}
	return p, api.OK
}

// outside returns a function that reports whether a number is not from least to most.
func outside(least, most int) func(int) bool {
	return func(n int) bool { return n < least || n > most }
}

// areRight reports whether prices are right.
func (l look) areRight(p api.Prices) bool {
	if len(p.Serve) != len(l.Orders) || len(p.Leave) != len(l.Orders) || len(p.Start) != len(l.Spares) {
		return false
	}
	give := slices.Concat(p.Leave, p.Start)
	if slices.ContainsFunc(p.Serve, outside(-api.MaxMark, api.MaxMark)) || slices.ContainsFunc(give, outside(0, api.MaxMark)) {
		return false
	}
	for j, x := range l.Orders {
		if p.Serve[j] > api.NewMark+x.Price {
			return false
		}
	}
	for x, pattern := range l.patterns {
		for j := range l.served(pattern.motion) {
			if p.Serve[j] > give[x]+l.cut(x, j) {
				return false
			}
		}
	}
	return true
}

// total returns the sum of some numbers.
func total(list []int) int {
	sum := 0
	for _, n := range list {
		sum += n
	}
	return sum
}

// CheckPrices returns the bound of right prices, and true: 0 and false if they are not right.
func CheckPrices(s api.Season, p api.Prices) (bound int, ok bool, e api.Errno) {
	l, e := looked(s)
	if e != api.OK {
		return 0, false, e
	}
	if !l.areRight(p) {
		return 0, false, api.OK
	}
	return total(p.Serve) - total(p.Leave) - total(p.Start), true, api.OK
}
