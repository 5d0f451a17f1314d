package loft

import (
	"cmp"
	"maps"
	"slices"
	"strings"

	"strickle/api"
)

// What has become of a request: it is open, a loan, let go, or there is a further one for its pattern.
const (
	requestOpen = iota
	requestLent
	requestFreed
	requestPast
)

// request is a request of the branch. Its Number is its index, and 1.
type request struct{ pattern, until, state int }

// ledger is what a branch has on its disk.
type ledger struct {
	branch, n int
	records   [api.MaxBranches][]api.Record
	requests  []request
	// promises are the own promises, at their patterns.
	promises map[int]api.Promise
	loans    []api.Loan
}

// lasts reports whether a promise is in force on a day.
func lasts(p api.Promise, day int) bool { return day <= p.Until }

// isOut reports whether a loan is in force on a day.
func isOut(x api.Loan, day int) bool { return x.From <= day && day <= x.Until }

// have returns how many records of each branch there are.
func (l *ledger) have() api.Have {
	var have api.Have
	for i, own := range l.records {
		have.Have[i] = len(own)
	}
	return have
}

// journal returns all records.
func (l *ledger) journal() []api.Record { return slices.Concat(l.records[:]...) }

// promised returns the own promise for a pattern: false if there is none.
func (l *ledger) promised(pattern int) (api.Promise, bool) {
	p, ok := l.promises[pattern]
	return p, ok
}

// isFor reports whether the own promise for a pattern is to a branch, and in force on a day.
func (l *ledger) isFor(station, pattern, day int) bool {
	p, ok := l.promised(pattern)
	return ok && p.To == station && lasts(p, day)
}

// renewed returns a promise that is made: it lasts as long as the one before. (That one is to the same branch, or has ended already.)
func (l *ledger) renewed(p api.Promise) api.Promise {
	p.Until = max(p.Until, l.promises[p.Pattern].Until)
	return p
}

// promisesOn returns the own promises that are in force on a day, by ascending pattern.
func (l *ledger) promisesOn(day int) []api.Promise {
	left := maps.Clone(l.promises)
	for pattern, p := range left {
		if !lasts(p, day) {
			delete(left, pattern)
		}
	}
	return slices.SortedFunc(maps.Values(left), func(p, q api.Promise) int { return cmp.Compare(p.Pattern, q.Pattern) })
}

// loansOn returns the loans that are in force on a day, by ascending pattern, then Number.
func (l *ledger) loansOn(day int) []api.Loan {
	var out []api.Loan
	for _, x := range l.loans {
		if isOut(x, day) {
			out = append(out, x)
		}
	}
	slices.SortFunc(out, func(x, y api.Loan) int {
		return cmp.Or(cmp.Compare(x.Pattern, y.Pattern), cmp.Compare(x.Number, y.Number))
	})
	return out
}

// hasLoan reports whether a pattern is on loan here on a day.
func (l *ledger) hasLoan(pattern, day int) bool {
	return slices.ContainsFunc(l.loans, func(x api.Loan) bool { return x.Pattern == pattern && isOut(x, day) })
}

// lastRequest returns the index of the last request for a pattern: -1 if there is none.
func (l *ledger) lastRequest(pattern int) int {
	for i, r := range slices.Backward(l.requests) {
		if r.pattern == pattern {
			return i
		}
	}
	return -1
}

// isOpen reports whether there is an open request for a pattern: only the last one can be it.
func (l *ledger) isOpen(pattern int) bool {
	i := l.lastRequest(pattern)
	return i >= 0 && l.requests[i].state == requestOpen
}

// isFreed reports whether a pattern has been let go already, on a day and for all requests.
func (l *ledger) isFreed(pattern, day int) bool {
	longer := func(x api.Loan) bool { return x.Pattern == pattern && isOut(x, day) && x.Until > day }
	if slices.ContainsFunc(l.loans, longer) || l.isFor(l.branch, pattern, day) && l.promises[pattern].Until > day {
		return false
	}
	return l.requests[l.lastRequest(pattern)].state == requestFreed
}

// enter enters a piece of the journal: it panics if there is none with this text.
func (l *ledger) enter(text string) {
	for line := range strings.Lines(text) {
		c, ok := read(l.n, strings.TrimSuffix(line, "\n"), (*words).change)
		if !ok {
			panic(api.ErrSpoilt)
		}
		c.enter(l)
	}
}
