package figure

import (
	"strconv"
	"strings"

	"strickle/api"
)

// mostNumber is the greatest number with three digits.
const mostNumber = 999

// verbs are the words that say in texts of which kind a term is. (No text has an empty word.)
var verbs = [...]string{
	api.TermBlock:  "block",
	api.TermJoin:   "join",
	api.TermLess:   "less",
	api.TermMeet:   "meet",
	api.TermMove:   "move",
	api.TermTurn:   "turn",
	api.TermRow:    "row",
	api.TermMirror: "mirror",
	api.TermSpun:   "spun",
}

// kindOf returns the kind of term that a word says: 0 if it says none.
func kindOf(word string) uint8 {
	for kind, verb := range verbs {
		if verb == word {
			return uint8(kind)
		}
	}
	return 0
}

// line is the words of a line that are still to be read, and the indices of the terms before it, at their names.
type line struct {
	words  []string
	before map[string]int
	// formless is whether the line has none of the forms, and strange whether a term has a name that no term before has.
	formless, strange bool
}

// word reads a word, which must be there and not be empty.
func (x *line) word() string {
	word := ""
	if len(x.words) > 0 {
		word = x.words[0]
		x.words = x.words[1:]
	}
	if word == "" {
		x.formless = true
	}
	return word
}

// name reads the name of a term before, and returns its index.
func (x *line) name() int {
	i, ok := x.before[x.word()]
	if !ok {
		x.strange = true
	}
	return i
}

// number reads a number.
func (x *line) number() int {
	word := x.word()
	n, err := strconv.Atoi(word)
	// Each number has one text: any other way to write it is none.
	if err != nil || strconv.Itoa(n) != word || n < -mostNumber || n > mostNumber {
		x.formless = true
	}
	return n
}

// numbers reads the Numbers of a term.
func (x *line) numbers(t *api.Term) {
	for i := range makingOf(*t).spans() {
		t.Numbers[i] = x.number()
	}
}

// pair reads the names of two terms.
func (x *line) pair(t *api.Term) {
	t.A = x.name()
	t.B = x.name()
}

// single reads the name of a term, and Numbers.
func (x *line) single(t *api.Term) {
	t.A = x.name()
	x.numbers(t)
}

// spun reads Numbers, and a Word.
func (x *line) spun(t *api.Term) {
	x.numbers(t)
	t.Word = x.word()
}

// term reads a term, which is all of the line: ErrForm if it has none of the forms, ErrName if it has a name that no term before has.
func (x *line) term() (api.Term, api.Errno) {
	forms := map[uint8]func(*line, *api.Term){
		api.TermBlock:  (*line).numbers,
		api.TermJoin:   (*line).pair,
		api.TermLess:   (*line).pair,
		api.TermMeet:   (*line).pair,
		api.TermMove:   (*line).single,
		api.TermTurn:   (*line).single,
		api.TermRow:    (*line).single,
		api.TermMirror: (*line).single,
		api.TermSpun:   (*line).spun,
	}
	t := api.Term{Name: x.word()}
	equals := x.word()
	t.Kind = kindOf(x.word())
	if equals != "=" || t.Kind == 0 {
		return api.Term{}, api.ErrForm
	}
	forms[t.Kind](x, &t)
	switch {
	case x.formless || len(x.words) > 0:
		return api.Term{}, api.ErrForm
	case x.strange:
		return api.Term{}, api.ErrName
	}
	return t, api.OK
}

// saysNothing reports whether a line is empty or a remark.
func saysNothing(text string) bool { return text == "" || text[0] == '#' }

// Parse reads a drawing: what is wrong with it otherwise, and in which line.
func Parse(src string) ([]api.Term, api.Fault) {
	if len(src) > api.MaxSource {
		return nil, api.Fault{Err: api.ErrLimit}
	}
	var l []api.Term
	before := map[string]int{}
	number := 0
	for text := range strings.SplitSeq(src, "\n") {
		number++
		if saysNothing(text) {
			continue
		}
		x := line{words: strings.Split(text, " "), before: before}
		t, e := x.term()
		if e == api.OK {
			e = checkTerm(t, before)
		}
		if e != api.OK {
			return nil, api.Fault{Err: e, Line: number}
		}
		before[t.Name] = len(l)
		l = append(l, t)
	}
	return l, api.Fault{}
}

// textOf returns the line of a term of a drawing.
func textOf(l []api.Term, t api.Term) string {
	words := []string{t.Name, "=", verbs[t.Kind]}
	m := makingOf(t)
	for _, i := range m.from() {
		words = append(words, l[i].Name)
	}
	for i := range m.spans() {
		words = append(words, strconv.Itoa(t.Numbers[i]))
	}
	if t.Kind == api.TermSpun {
		words = append(words, t.Word)
	}
	return strings.Join(words, " ") + "\n"
}

// Print returns the text of a drawing: an empty one for a list that is none.
func Print(l []api.Term) string {
	if _, e := Check(l); e != api.OK {
		return ""
	}
	text := ""
	for _, t := range l {
		text += textOf(l, t)
	}
	return text
}
