package solid

import (
	"strconv"
	"strings"

	"strickle/api"
)

// Write returns the text of a solid.
func Write(s api.Solid) string {
	planes := api.MaxSide
	for planes > 1 && s[planes-1] == 0 {
		planes--
	}
	var l []string
	for _, plane := range s[:planes] {
		l = append(l, strconv.FormatUint(plane, 16))
	}
	return strings.Join(l, ".")
}

// planeOf returns the plane with a text: it panics if there is none.
func planeOf(text string) uint64 {
	plane, err := strconv.ParseUint(text, 16, 64)
	if err != nil {
		panic(api.ErrForm)
	}
	return plane
}

// Read returns the solid with a text: ErrForm if there is none.
func Read(s string) (x api.Solid, e api.Errno) {
	defer func() {
		if recover() != nil {
			x, e = api.Solid{}, api.ErrForm
		}
	}()
	planes := 0
	for text := range strings.SplitSeq(s, ".") {
		if planes == api.MaxSide {
			panic(api.ErrForm)
		}
		x[planes] = planeOf(text)
		planes++
	}
	// Each solid has one text: any other way to write it is none.
	if Write(x) != s {
		panic(api.ErrForm)
	}
	return x, api.OK
}
