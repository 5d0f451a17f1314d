package caliper

import (
	"slices"

	"strickle/api"
)

// mostOfProbe is the greatest Cost of a probe.
const mostOfProbe = 1000

// findings are what was found of each probe.
type findings [api.MaxProbes]uint8

// What was found of a probe.
const (
	notAsked uint8 = 0
	yes      uint8 = 1
	no       uint8 = 2
)

// with returns findings with an answer more.
func (f findings) with(i int, answer uint8) findings {
	f[i] = answer
	return f
}

// findingsOf returns the findings that a list is of so many probes: false if it is none.
func findingsOf[T int | uint8](found []T, probes int) (findings, bool) {
	var f findings
	if len(found) != probes {
		return findings{}, false
	}
	for i, n := range found {
		if n < T(notAsked) || n > T(no) {
			return findings{}, false
		}
		f[i] = uint8(n)
	}
	return f, true
}

// isNoProbe reports whether a probe is not as the chapter says.
func isNoProbe(p api.Probe) bool { return isEmpty(p.Cells) || p.Cost < 1 || p.Cost > mostOfProbe }

// CheckProbes returns ErrLimit if there are too many probes, ErrArg if one is not as the chapter says.
func CheckProbes(l []api.Probe) api.Errno {
	if len(l) > api.MaxProbes {
		return api.ErrLimit
	}
	if slices.ContainsFunc(l, isNoProbe) {
		return api.ErrArg
	}
	return api.OK
}

// Can reports whether there can be findings: ErrArg if a list is none.
func Can(w api.Wood, l []api.Probe, found []int) (bool, api.Errno) {
	q, f, e := looked(w, l, found)
	if e != api.OK {
		return false, e
	}
	return q.can(f), api.OK
}

// Behind returns the least truth behind findings: ErrNone if there cannot be these.
func Behind(w api.Wood, l []api.Probe, found []int) (api.Solid, api.Errno) {
	q, f, e := looked(w, l, found)
	if e != api.OK {
		return api.Solid{}, e
	}
	if !q.can(f) {
		return api.Solid{}, api.ErrNone
	}
	return api.Solid(q.least(f)), api.OK
}
