package plank

import (
	"slices"

	"strickle/api"
)

// isKind reports whether numbers are those of a kind of plank.
func isKind(k api.Kind) bool {
	return k.Id >= 1 && k.Id <= api.MaxId && isSide(k.W) && isSide(k.H) && k.Worth >= 0 && k.Worth <= api.MaxWorth
}

// hasKind reports whether a number is the index of a kind.
func hasKind(s api.Saw, kind int) bool { return kind >= 0 && kind < len(s.Kinds) }

// checkKind returns the error of CheckSaw, then ErrArg if there is no such kind.
func checkKind(s api.Saw, kind int) api.Errno {
	e := CheckSaw(s)
	if e == api.OK && !hasKind(s, kind) {
		return api.ErrArg
	}
	return e
}

// checked returns a saw: the error of CheckSaw if it is none.
func checked(s api.Saw) (api.Saw, api.Errno) {
	if e := CheckSaw(s); e != api.OK {
		return api.Saw{}, e
	}
	return s, api.OK
}

// changed returns a saw in which each kind is changed.
func changed(s api.Saw, change func(*api.Kind)) api.Saw {
	s.Kinds = slices.Clone(s.Kinds)
	for i := range s.Kinds {
		change(&s.Kinds[i])
	}
	return s
}

// raised returns the saw in which a kind has another Worth, which may be greater than that of a saw.
func raised(s api.Saw, kind, worth int) api.Saw {
	s.Kinds = slices.Clone(s.Kinds)
	s.Kinds[kind].Worth = worth
	return s
}

// Raised returns the saw in which a kind has another Worth.
func Raised(s api.Saw, kind, worth int) (api.Saw, api.Errno) {
	if e := checkKind(s, kind); e != api.OK {
		return api.Saw{}, e
	}
	return checked(raised(s, kind, worth))
}

// WithKind returns the saw with a kind more.
func WithKind(s api.Saw, x api.Kind) (api.Saw, api.Errno) {
	if e := CheckSaw(s); e != api.OK {
		return api.Saw{}, e
	}
	s.Kinds = append(slices.Clone(s.Kinds), x)
	return checked(s)
}

// Without returns the saw without a kind.
func Without(s api.Saw, kind int) (api.Saw, api.Errno) {
	if e := checkKind(s, kind); e != api.OK {
		return api.Saw{}, e
	}
	s.Kinds = slices.Concat(s.Kinds[:kind], s.Kinds[kind+1:])
	return s, api.OK
}

// Turned returns the saw in which the W and the H of each kind have changed places.
func Turned(s api.Saw) (api.Saw, api.Errno) {
	if e := CheckSaw(s); e != api.OK {
		return api.Saw{}, e
	}
	return changed(s, func(k *api.Kind) { k.W, k.H = k.H, k.W }), api.OK
}
