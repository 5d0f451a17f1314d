package season

import (
	"strconv"
	"strings"

	"strickle/api"
	"strickle/solid"
)

// orderWord is the word with which the line of an order begins.
const orderWord = "order"

// Write returns the line of an order: ErrArg for one that is not as the chapter says.
func Write(x api.Order) (string, api.Errno) {
	if !isOrder(x) {
		return "", api.ErrArg
	}
	line := orderWord
	for _, n := range [...]int{x.Id, x.From, x.To, x.Size, x.Price} {
		line += " " + strconv.Itoa(n)
	}
	return line + " " + solid.Write(x.Wood), api.OK
}

// Read returns the order with a line: ErrForm if there is none.
func Read(line string) (api.Order, api.Errno) {
	var x api.Order
	rest := strings.TrimPrefix(line, orderWord+" ")
	for _, n := range [...]*int{&x.Id, &x.From, &x.To, &x.Size, &x.Price} {
		var word string
		word, rest, _ = strings.Cut(rest, " ")
		*n, _ = strconv.Atoi(word)
	}
	x.Wood, _ = solid.Read(rest)
	// Each order has one line: any other way to write it is none.
	if text, e := Write(x); e != api.OK || text != line {
		return api.Order{}, api.ErrForm
	}
	return x, api.OK
}
