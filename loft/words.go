package loft

import (
	"strconv"
	"strings"

	"strickle/api"
)

// words are the words of a text of n branches that are still to be read.
type words struct {
	n int
	// next cuts off a word, and rest all that is left: they panic when there are no more.
	next, rest func() string
	ended      func() bool
}

// wordsOf returns the words of a text.
func wordsOf(n int, text string) *words {
	more := true
	w := &words{n: n}
	w.rest = func() string {
		if !more {
			panic(api.ErrForm)
		}
		more = false
		return text
	}
	w.next = func() string {
		word, behind, found := strings.Cut(w.rest(), " ")
		text, more = behind, found
		return word
	}
	w.ended = func() bool { return !more }
	return w
}

// read returns what a form makes of the words of a text: false if it panics, or leaves some.
func read[T any](n int, text string, form func(*words) T) (x T, ok bool) {
	defer func() {
		if recover() != nil {
			var none T
			x, ok = none, false
		}
	}()
	w := wordsOf(n, text)
	x = form(w)
	w.require(w.ended())
	return x, true
}

// chosen reads the first word, and what is behind it by the form with this name.
func chosen[T any](w *words, forms map[string]func(*words) T) T {
	form, ok := forms[w.next()]
	w.require(ok)
	return form(w)
}

// require panics if what a text must be is not so.
func (w *words) require(is bool) {
	if !is {
		panic(api.ErrForm)
	}
}

// numberIn returns the number with a word, which must be in a range.
func (w *words) numberIn(word string, low, high int) int {
	x, err := strconv.Atoi(word)
	// Each number has one word: any other way to write it is none.
	w.require(err == nil && strconv.Itoa(x) == word && x >= low && x <= high)
	return x
}

// number reads a number.
func (w *words) number(low, high int) int { return w.numberIn(w.next(), low, high) }

// station reads the number of a branch.
func (w *words) station() int { return w.number(0, w.n-1) }

// day reads a day.
func (w *words) day() int { return w.number(0, api.MaxDay) }

// pattern reads the Id of a pattern.
func (w *words) pattern() int { return w.number(1, api.MaxId) }

// request reads the Number of a request.
func (w *words) request() int { return w.number(1, api.MaxRequests) }

// have reads how many records of each branch somebody has.
func (w *words) have() api.Have {
	var have api.Have
	for i := range w.n {
		have.Have[i] = w.number(0, api.MaxRecords)
	}
	return have
}

// record reads a record.
func (w *words) record() api.Record {
	x := api.Record{Station: w.station(), Number: w.number(1, api.MaxRecords), Day: w.day()}
	x.Text = w.rest()
	w.require(isText(x.Text))
	return x
}

// line returns the line with a word and numbers.
func line(word string, numbers ...int) string {
	text := []byte(word)
	for _, x := range numbers {
		text = strconv.AppendInt(append(text, ' '), int64(x), 10)
	}
	return string(append(text, '\n'))
}

// recordLine returns the line of a well-formed record, without a line feed.
func recordLine(x api.Record) string {
	return strconv.Itoa(x.Station) + " " + strconv.Itoa(x.Number) + " " + strconv.Itoa(x.Day) + " " + x.Text
}

// WriteRecord returns the line of a record: ErrArg if it is not well-formed.
func WriteRecord(n int, x api.Record) (string, api.Errno) {
	if !isShop(n) || !isRecord(n, x) {
		return "", api.ErrArg
	}
	return recordLine(x), api.OK
}

// ReadRecord returns the well-formed record with a line: ErrForm if there is none.
func ReadRecord(n int, line string) (api.Record, api.Errno) {
	if !isShop(n) {
		return api.Record{}, api.ErrArg
	}
	x, ok := read(n, line, (*words).record)
	if !ok {
		return api.Record{}, api.ErrForm
	}
	return x, api.OK
}
