package loft

import "strickle/api"

// change is a change of what is on the disk of a branch.
type change interface {
	// text returns the line in the journal on the disk.
	text() string
	enter(l *ledger)
}

// added is a record more.
type added struct{ api.Record }

// wanted is a request more.
type wanted struct{ pattern, until int }

// promised is what the own promise for a pattern becomes.
type promised api.Promise

// freed is that a pattern is let go.
type freed struct{ pattern, day int }

// granted is that requests are granted, by ascending Numbers.
type granted struct {
	day     int
	numbers []int
}

func (c added) text() string { return "note " + recordLine(c.Record) + "\n" }

func (c wanted) text() string { return line("want", c.pattern, c.until) }

func (c promised) text() string { return line("promise", c.Pattern, c.To, c.Number, c.Until) }

func (c freed) text() string { return line("free", c.pattern, c.day) }

// text tells how far the Numbers are apart: so that all requests at once need no more room than one operation has.
func (c granted) text() string {
	steps := []int{c.day}
	before := 0
	for _, number := range c.numbers {
		steps = append(steps, number-before)
		before = number
	}
	return line("grant", steps...)
}

func (c added) enter(l *ledger) {
	own := &l.records[c.Station]
	*own = append(*own, c.Record)
}

func (c wanted) enter(l *ledger) {
	for i, r := range l.requests {
		if r.pattern == c.pattern {
			l.requests[i].state = requestPast
		}
	}
	l.requests = append(l.requests, request{pattern: c.pattern, until: c.until})
}

func (c promised) enter(l *ledger) { l.promises[c.Pattern] = api.Promise(c) }

func (c freed) enter(l *ledger) {
	for i, x := range l.loans {
		if x.Pattern == c.pattern && isOut(x, c.day) {
			l.loans[i].Until = c.day
		}
	}
	if p, _ := l.promised(c.pattern); l.isFor(l.branch, c.pattern, c.day) {
		p.Until = c.day
		l.promises[c.pattern] = p
	}
	l.requests[l.lastRequest(c.pattern)].state = requestFreed
}

func (c granted) enter(l *ledger) {
	for _, number := range c.numbers {
		r := &l.requests[number-1]
		r.state = requestLent
		l.loans = append(l.loans, api.Loan{Pattern: r.pattern, From: c.day, Until: r.until, Number: number})
	}
}

// added reads what is behind `note`.
func (w *words) added() change { return added{w.record()} }

// wanted reads what is behind `want`.
func (w *words) wanted() change { return wanted{w.pattern(), w.day()} }

// promised reads what is behind `promise`.
func (w *words) promised() change {
	return promised{Pattern: w.pattern(), To: w.station(), Number: w.request(), Until: w.day()}
}

// freed reads what is behind `free`.
func (w *words) freed() change { return freed{w.pattern(), w.day()} }

// granted reads what is behind `grant`.
func (w *words) granted() change {
	c := granted{day: w.day()}
	number := 0
	for !w.ended() {
		number += w.request()
		c.numbers = append(c.numbers, number)
	}
	return c
}

// change reads a line of the journal on a disk.
func (w *words) change() change {
	return chosen(w, map[string]func(*words) change{
		"note":    (*words).added,
		"want":    (*words).wanted,
		"promise": (*words).promised,
		"free":    (*words).freed,
		"grant":   (*words).granted,
	})
}
