package figure

import (
	"slices"
	"strconv"
	"strings"

	"strickle/api"
)

// The numbers of times that an expression repeats another one.
const (
	leastTimes = 2
	mostTimes  = 9
)

// What stands around an expression that is repeated or mirrored.
const (
	repeatTail = ")"
	mirrorHead = "<"
	mirrorTail = ">"
)

// repeatHead returns what stands ahead of an expression that is repeated.
func repeatHead(n int) string { return strconv.Itoa(n) + "(" }

// isLetter reports whether a byte is a letter of words.
func isLetter(c byte) bool { return c >= 'a' && c <= 'z' }

// isWord reports whether a text is a word.
func isWord(s string) bool {
	for i := range len(s) {
		if !isLetter(s[i]) {
			return false
		}
	}
	return s != "" && len(s) <= api.MaxWord
}

// backwards returns a word backwards.
func backwards(word string) string {
	l := []byte(word)
	slices.Reverse(l)
	return string(l)
}

// expression is an expression that was read: its text, that of it backwards, and its word.
type expression struct{ text, back, word string }

// then returns the expression with another one behind it.
func (x expression) then(y expression) expression {
	return expression{x.text + y.text, y.back + x.back, x.word + y.word}
}

// times returns the expression that repeats this one.
func (x expression) times(n int) expression {
	head := repeatHead(n)
	return expression{head + x.text + repeatTail, head + x.back + repeatTail, strings.Repeat(x.word, n)}
}

// mirrored returns the expression with this one between < and >. Its word is the same backwards, so it stays as it is then.
func (x expression) mirrored() expression {
	text := mirrorHead + x.text + mirrorTail
	return expression{text, text, x.word + backwards(x.word)}
}

// read reads an expression: false if a text is none.
func read(text string) (x expression, ok bool) {
	defer func() {
		if recover() != nil {
			x, ok = expression{}, false
		}
	}()
	if len(text) > api.MaxText {
		panic(api.ErrWord)
	}
	rest := text
	skip := func(what string) {
		after, found := strings.CutPrefix(rest, what)
		if !found {
			panic(api.ErrWord)
		}
		rest = after
	}
	var items func() expression
	between := func(head, tail string) expression {
		skip(head)
		inside := items()
		skip(tail)
		return inside
	}
	item := func() expression {
		for n := leastTimes; n <= mostTimes; n++ {
			if strings.HasPrefix(rest, repeatHead(n)) {
				return between(repeatHead(n), repeatTail).times(n)
			}
		}
		if rest != "" && isLetter(rest[0]) {
			letter := rest[:1]
			skip(letter)
			return expression{letter, letter, letter}
		}
		return between(mirrorHead, mirrorTail).mirrored()
	}
	items = func() expression {
		x := item()
		for rest != "" && !strings.ContainsAny(rest[:1], repeatTail+mirrorTail) {
			x = x.then(item())
		}
		if len(x.word) > api.MaxWord {
			panic(api.ErrWord)
		}
		return x
	}
	x = items()
	if rest != "" {
		panic(api.ErrWord)
	}
	return x, true
}

// Spread returns the word of an expression: ErrWord if a text is none.
func Spread(e string) (string, api.Errno) {
	x, ok := read(e)
	if !ok {
		return "", api.ErrWord
	}
	return x.word, api.OK
}

// Backwards returns an expression backwards: ErrWord if a text is none.
func Backwards(e string) (string, api.Errno) {
	x, ok := read(e)
	if !ok {
		return "", api.ErrWord
	}
	return x.back, api.OK
}
