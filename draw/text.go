package draw

import (
	"strconv"
	"strings"

	"strickle/api"
)

// sideNames are the words for the sides of a move.
var sideNames = [...]string{"up", "east", "south", "west", "north"}

// sideOf returns the side with a name, or -1 if there is none.
func sideOf(name string) int {
	for side, word := range sideNames {
		if word == name {
			return side
		}
	}
	return -1
}

// Write returns the text of a move: ErrArg if it is none.
func Write(x api.Move) (string, api.Errno) {
	if x.Piece < 0 || x.Piece >= api.MaxPieces || !isWay(x) {
		return "", api.ErrArg
	}
	text := strconv.Itoa(x.Piece) + " " + sideNames[x.Side]
	if x.Side > 0 {
		text += " " + strconv.Itoa(x.Far)
	}
	return text, api.OK
}

// Read returns the move with a text: ErrForm if there is none.
func Read(s string) (api.Move, api.Errno) {
	first, rest, _ := strings.Cut(s, " ")
	side, distance, sideways := strings.Cut(rest, " ")
	if !sideways {
		distance = "0"
	}
	piece, pieceErr := strconv.Atoi(first)
	far, farErr := strconv.Atoi(distance)
	if pieceErr != nil || farErr != nil {
		return api.Move{}, api.ErrForm
	}
	x := api.Move{Piece: piece, Side: sideOf(side), Far: far}
	// Each move has one text: any other way to write it is none.
	if text, e := Write(x); e != api.OK || text != s {
		return api.Move{}, api.ErrForm
	}
	return x, api.OK
}
