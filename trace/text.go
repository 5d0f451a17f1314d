package trace

import (
	"strconv"
	"strings"

	"strickle/api"
	"strickle/solid"
)

// The words with which the lines of actions begin.
const (
	cutWord  = "cut"
	fitWord  = "fit"
	takeWord = "take"
)

// Write returns the line of an action: ErrArg if it is none for a pattern with 8 pieces.
func Write(a api.Action) (string, api.Errno) {
	if !isAction(a, api.MaxKept) {
		return "", api.ErrArg
	}
	switch a.Kind {
	case api.ActCut:
		return cutWord + " " + solid.Write(a.Cells), api.OK
	case api.ActFit:
		return fitWord + " " + strconv.Itoa(a.Piece), api.OK
	}
	return takeWord + " " + strconv.Itoa(a.Piece), api.OK
}

// actionOf returns the action with a word and what stands behind it: one that has no line if there is none.
func actionOf(word, rest string) api.Action {
	var a api.Action
	switch word {
	case cutWord:
		a.Kind = api.ActCut
		a.Cells, _ = solid.Read(rest)
	case fitWord:
		a.Kind = api.ActFit
		a.Piece, _ = strconv.Atoi(rest)
	case takeWord:
		a.Kind = api.ActTake
		a.Piece, _ = strconv.Atoi(rest)
	}
	return a
}

// Read returns the action with a line: ErrForm if there is none.
func Read(line string) (api.Action, api.Errno) {
	word, rest, _ := strings.Cut(line, " ")
	a := actionOf(word, rest)
	// Each action has one line: any other way to write it is none.
	if text, e := Write(a); e != api.OK || text != line {
		return api.Action{}, api.ErrForm
	}
	return a, api.OK
}
