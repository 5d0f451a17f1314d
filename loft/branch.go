package loft

import (
	"cmp"
	"slices"

	"strickle/api"
)

// gift is which request another branch has given a promise for.
type gift struct{ number, giver int }

// given is on which day it has given it, and what it had then.
type given struct {
	day  int
	have api.Have
}

// Branch is a branch of a shop.
type Branch struct {
	ledger
	disk *Disk
	// end is the sector behind the journal.
	end int
	// lost is whether an operation failed of which the disk may have all or nothing: until it is opened again, nothing more is written.
	lost bool
	// What the others have said that they have, and have given, is known until the branch is opened again.
	heard [api.MaxBranches]api.Have
	gifts map[gift]given
}

// header returns the first piece of the journal of a branch.
func header(branch, n int) string { return line("loft", branch, n) }

// load enters the journal on the disk: false if it is that of another branch, or none.
func (b *Branch) load() (ok bool) {
	defer func() {
		if recover() != nil {
			ok = false
		}
	}()
	for end, text := range b.disk.pieces() {
		if b.end > 0 {
			b.enter(text)
		} else if text != header(b.branch, b.n) {
			return false
		}
		b.end = end
	}
	// A power that failed before the header was there can have left a part of it, and nothing else.
	return b.end > 0 || b.disk.isEmpty(1)
}

// Open returns the branch whose journal a disk contains.
func Open(d *Disk, branch, n int) (*Branch, api.Errno) {
	if !isShop(n) || branch < 0 || branch >= n {
		return nil, api.ErrArg
	}
	if e := d.state(); e != api.OK {
		return nil, e
	}
	b := &Branch{disk: d, gifts: map[gift]given{}}
	b.ledger = ledger{branch: branch, n: n, promises: map[int]api.Promise{}}
	if !b.load() {
		return nil, api.ErrSpoilt
	}
	if e := d.wipe(b.end); e != api.OK {
		return nil, e
	}
	if b.end == 0 {
		end, e := d.put(0, header(branch, n))
		if e != api.OK {
			return nil, e
		}
		b.end = end
	}
	return b, api.OK
}

// ready returns ErrDown if nothing can be written.
func (b *Branch) ready() api.Errno {
	if b.disk.Down() {
		b.lost = true
	}
	if b.lost {
		return api.ErrDown
	}
	return api.OK
}

// commit makes changes durable, all of them or none.
func (b *Branch) commit(l ...change) api.Errno {
	if len(l) == 0 {
		return api.OK
	}
	if e := b.ready(); e != api.OK {
		return e
	}
	text := ""
	for _, c := range l {
		text += c.text()
	}
	end, e := b.disk.put(b.end, text)
	if e != api.OK {
		b.lost = e == api.ErrDown
		return e
	}
	b.end = end
	for _, c := range l {
		c.enter(&b.ledger)
	}
	return api.OK
}

// refused returns why a record of the branch is refused that has a form: OK if it is not, or has none.
func (b *Branch) refused(x api.Record) api.Errno {
	d := deedOf(x.Text)
	if d == nil {
		return api.OK
	}
	if pattern := d.touches(); pattern != 0 && !b.hasLoan(pattern, x.Day) {
		return api.ErrLent
	}
	l := inOrder(append(b.journal(), x))
	return tell(l).ends[slices.Index(l, x)]
}

// Add writes a record with the next Number, which it returns.
func (b *Branch) Add(text string, day int) (int, api.Errno) {
	if b == nil {
		return 0, api.ErrNil
	}
	if !isDay(day) || !isText(text) {
		return 0, api.ErrArg
	}
	own := b.records[b.branch]
	x := api.Record{Station: b.branch, Number: len(own) + 1, Day: day, Text: text}
	if len(own) > 0 && day < own[len(own)-1].Day {
		return 0, api.ErrTime
	}
	if x.Number > api.MaxRecords {
		return 0, api.ErrLimit
	}
	if e := b.refused(x); e != api.OK {
		return 0, e
	}
	if e := b.commit(added{x}); e != api.OK {
		return 0, e
	}
	return x.Number, api.OK
}

// Records returns the journal that the branch has.
func (b *Branch) Records() []api.Record {
	if b == nil {
		return nil
	}
	return b.journal()
}

// Have returns how many records of each branch it has.
func (b *Branch) Have() api.Have {
	if b == nil {
		return api.Have{}
	}
	return b.have()
}

// Sealed returns how many first records of each branch are sealed.
func (b *Branch) Sealed() api.Have {
	var sealed api.Have
	if b == nil {
		return sealed
	}
	known := b.heard
	known[b.branch] = b.have()
	for station := range b.n {
		var numbers []int
		for _, have := range known[:b.n] {
			numbers = append(numbers, have.Have[station])
		}
		// Those from the middle on are a majority.
		slices.Sort(numbers)
		sealed.Have[station] = numbers[b.n/2]
	}
	return sealed
}

// Want makes a request for a pattern, with the next Number, which it returns.
func (b *Branch) Want(pattern, until, day int) (int, api.Errno) {
	if b == nil {
		return 0, api.ErrNil
	}
	if !isDay(day) || !isId(pattern) || until < day || until > min(day+api.MaxLoan, api.MaxDay) {
		return 0, api.ErrArg
	}
	if p, ok := b.promised(pattern); ok && p.To != b.branch && lasts(p, day) {
		return 0, api.ErrLent
	}
	number := len(b.requests) + 1
	if number > api.MaxRequests {
		return 0, api.ErrLimit
	}
	own := b.renewed(api.Promise{Pattern: pattern, To: b.branch, Number: number, Until: until})
	if e := b.commit(wanted{pattern, until}, promised(own)); e != api.OK {
		return 0, e
	}
	return number, api.OK
}

// Free lets a pattern go from the next day on.
func (b *Branch) Free(pattern, day int) api.Errno {
	if b == nil {
		return api.ErrNil
	}
	if !isDay(day) {
		return api.ErrArg
	}
	if !b.hasLoan(pattern, day) && !b.isOpen(pattern) {
		return api.ErrNone
	}
	if e := b.ready(); e != api.OK {
		return e
	}
	if b.isFreed(pattern, day) {
		return api.OK
	}
	return b.commit(freed{pattern, day})
}

// Promises returns the own promises that are in force, by ascending pattern.
func (b *Branch) Promises(day int) []api.Promise {
	if b == nil || !isDay(day) {
		return nil
	}
	return b.promisesOn(day)
}

// Loans returns the own loans that are in force, by ascending pattern, then Number.
func (b *Branch) Loans(day int) []api.Loan {
	if b == nil || !isDay(day) {
		return nil
	}
	return b.loansOn(day)
}

// Letters returns what is to be told to each other branch.
func (b *Branch) Letters(day int) []string {
	if b == nil || !isDay(day) {
		return nil
	}
	l := []string{greeting{b.n, b.have()}.text()}
	var gone []freeing
	for i, r := range b.requests {
		if r.until < day {
			continue
		}
		switch r.state {
		case requestOpen:
			l = append(l, asking{b.branch, i + 1, r.pattern, r.until}.text())
		case requestFreed:
			gone = append(gone, freeing{b.branch, i + 1, r.pattern})
		}
	}
	slices.SortFunc(gone, func(x, y freeing) int { return cmp.Compare(x.pattern, y.pattern) })
	for _, x := range gone {
		l = append(l, x.text())
	}
	return l
}
