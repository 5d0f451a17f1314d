package caliper

import (
	"strconv"
	"strings"

	"strickle/api"
	"strickle/solid"
)

// kindWords are the words of the kinds of readings, at the kinds.
var kindWords = [...]string{api.ReadSeen: "seen", api.ReadBare: "bare", api.ReadVoid: "void"}

// Write returns the line of a reading: ErrArg if it is not well-formed.
func Write(x api.Reading) (string, api.Errno) {
	if !isReading(x) {
		return "", api.ErrArg
	}
	what := solid.Write(x.Cells)
	if x.Kind == api.ReadVoid {
		what = strconv.Itoa(x.Of)
	}
	return strconv.Itoa(x.Id) + " " + strconv.Itoa(x.Known) + " " + kindWords[x.Kind] + " " + what, api.OK
}

// readingOf returns the reading with the four words of a line: one that has no line if there is none.
func readingOf(id, known, word, what string) api.Reading {
	var x api.Reading
	x.Id, _ = strconv.Atoi(id)
	x.Known, _ = strconv.Atoi(known)
	for kind, text := range kindWords {
		if text == word {
			x.Kind = uint8(kind)
		}
	}
	if x.Kind == api.ReadVoid {
		x.Of, _ = strconv.Atoi(what)
	} else {
		x.Cells, _ = solid.Read(what)
	}
	return x
}

// Read returns the well-formed reading with a line: ErrForm if there is none.
func Read(line string) (api.Reading, api.Errno) {
	words := strings.Split(line, " ")
	if len(words) != 4 {
		return api.Reading{}, api.ErrForm
	}
	x := readingOf(words[0], words[1], words[2], words[3])
	// Each reading has one line: any other way to write it is none.
	if text, e := Write(x); e != api.OK || text != line {
		return api.Reading{}, api.ErrForm
	}
	return x, api.OK
}
