package figure

import (
	"cmp"
	"iter"

	"strickle/api"
)

// mostBound is the greatest number of a table, and -mostBound the least one.
const mostBound = 1000

// part is a part of a word: its letters from one index on, before another one.
type part struct{ from, to int }

// of returns the letters of the part.
func (p part) of(word string) string { return word[p.from:p.to] }

// parts yields the parts of a word, in the order of tables.
func parts(word string) iter.Seq[part] {
	return func(yield func(part) bool) {
		for from := range len(word) {
			for to := from + 1; to <= len(word); to++ {
				if !yield(part{from, to}) {
					return
				}
			}
		}
	}
}

// way is a way to write a part of a word: some lesser parts, one behind the other, between a head and a tail.
type way struct {
	head  string
	parts []part
	tail  string
}

// ways returns all ways to write a part of a word, at least one.
func ways(word string, p part) []way {
	var l []way
	text := p.of(word)
	if len(text) == 1 {
		l = append(l, way{head: text})
	}
	for at := p.from + 1; at < p.to; at++ {
		l = append(l, way{parts: []part{{p.from, at}, {at, p.to}}})
	}
	for _, n := range repeats(text) {
		first := part{p.from, p.from + len(text)/n}
		l = append(l, way{repeatHead(n), []part{first}, repeatTail})
	}
	if half := len(text) / 2; text[:half] == backwards(text[half:]) {
		l = append(l, way{mirrorHead, []part{{p.from, p.from + half}}, mirrorTail})
	}
	return l
}

// repeats returns the numbers of equal parts, as many as an expression can repeat, into which a text can be divided.
func repeats(text string) []int {
	var l []int
divided:
	for n := leastTimes; n <= mostTimes; n++ {
		if len(text)%n != 0 {
			continue
		}
		size := len(text) / n
		for at := size; at < len(text); at += size {
			if text[at:at+size] != text[:size] {
				continue divided
			}
		}
		l = append(l, n)
	}
	return l
}

// best returns the first of some things, at least one, that sorts before all that are not equal to it.
func best[T any](l []T, compare func(a, b T) int) T {
	x := l[0]
	for _, y := range l[1:] {
		if compare(y, x) < 0 {
			x = y
		}
	}
	return x
}

// shorter compares two expressions: one with fewer bytes sorts first.
func shorter(a, b string) int {
	return cmp.Or(cmp.Compare(len(a), len(b)), cmp.Compare(a, b))
}

// shortest returns the first of the shortest expressions of each part of a word. Those of one part have as many bytes, so that the first one that is written in a way is made of the first ones of the lesser parts.
func shortest(word string) map[part]string {
	found := map[part]string{}
	var find func(p part) string
	find = func(p part) string {
		if e, ok := found[p]; ok {
			return e
		}
		var l []string
		for _, w := range ways(word, p) {
			e := w.head
			for _, lesser := range w.parts {
				e += find(lesser)
			}
			l = append(l, e+w.tail)
		}
		e := best(l, shorter)
		found[p] = e
		return e
	}
	find(part{0, len(word)})
	return found
}

// Length returns the length of a word: ErrArg if a text is none.
func Length(word string) (int, api.Errno) {
	e, err := Shortest(word)
	return len(e), err
}

// Shortest returns the first of the shortest expressions of a word: ErrArg if a text is none.
func Shortest(word string) (string, api.Errno) {
	if !isWord(word) {
		return "", api.ErrArg
	}
	return shortest(word)[part{0, len(word)}], api.OK
}

// Bounds returns the table with the lengths of all parts of a word: ErrArg if a text is none.
func Bounds(word string) ([]int, api.Errno) {
	if !isWord(word) {
		return nil, api.ErrArg
	}
	found := shortest(word)
	var l []int
	for p := range parts(word) {
		l = append(l, len(found[p]))
	}
	return l, api.OK
}

// tableOf returns the numbers of a list at their parts of a word: false if it is no table of the word, or has a number that no table has.
func tableOf(word string, l []int) (map[part]int, bool) {
	if len(l) != len(word)*(len(word)+1)/2 {
		return nil, false
	}
	numbers := map[part]int{}
	for p := range parts(word) {
		n := l[len(numbers)]
		if n < -mostBound || n > mostBound {
			return nil, false
		}
		numbers[p] = n
	}
	return numbers, true
}

// holds reports whether no number of a table of a word is greater than what a way to write its part comes to.
func holds(word string, numbers map[part]int) bool {
	for p := range parts(word) {
		for _, w := range ways(word, p) {
			most := len(w.head) + len(w.tail)
			for _, lesser := range w.parts {
				most += numbers[lesser]
			}
			if numbers[p] > most {
				return false
			}
		}
	}
	return true
}

// CheckBounds reports whether a list is a table of a word that holds: ErrArg if a text is no word.
func CheckBounds(word string, l []int) (bool, api.Errno) {
	if !isWord(word) {
		return false, api.ErrArg
	}
	numbers, ok := tableOf(word, l)
	return ok && holds(word, numbers), api.OK
}

// CheckShortest reports whether a table shows that an expression of a word is as short as one can be: ErrArg if a text is no word.
func CheckShortest(word, e string, l []int) (bool, api.Errno) {
	ok, err := CheckBounds(word, l)
	if !ok {
		return false, err
	}
	// The parts that begin with the first letter stand first in the table, the whole word last of them.
	spread, _ := Spread(e)
	return spread == word && l[len(word)-1] == len(e), api.OK
}
