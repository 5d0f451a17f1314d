package rule

import (
	"strconv"
	"strings"

	"strickle/api"
)

// Write returns the text of a fraction.
func Write(x api.Frac) (string, api.Errno) {
	if e := check(x); e != api.OK {
		return "", e
	}
	if x.Den == 1 {
		return strconv.Itoa(x.Num), api.OK
	}
	return strconv.Itoa(x.Num) + "/" + strconv.Itoa(x.Den), api.OK
}

// Read returns the fraction with a text: ErrForm if there is none.
func Read(s string) (api.Frac, api.Errno) {
	top, bottom, divided := strings.Cut(s, "/")
	if !divided {
		bottom = "1"
	}
	num, numErr := strconv.Atoi(top)
	den, denErr := strconv.Atoi(bottom)
	if numErr != nil || denErr != nil {
		return api.Frac{}, api.ErrForm
	}
	x := api.Frac{Num: num, Den: den}
	// Each fraction has one text: any other way to write it is none.
	if text, e := Write(x); e != api.OK || text != s {
		return api.Frac{}, api.ErrForm
	}
	return x, api.OK
}
