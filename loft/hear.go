package loft

import "strickle/api"

// hearing is what a message does that is heard.
type hearing struct {
	from, day int
	changes   []change
	// numbers is how many records of each branch there are behind it, and told how many the sender has, as it says.
	numbers, told api.Have
	// gift is what it counts as given, if it is one.
	gift gift
	// answer is nil if there is none.
	answer message
}

// within reports whether somebody who has so many records has all that another one has.
func within(have, numbers api.Have) bool {
	for i, x := range have.Have {
		if x > numbers.Have[i] {
			return false
		}
	}
	return true
}

// takeGreeting answers a greeting by what is lacking there, or by the own greeting if something is lacking here.
func (b *Branch) takeGreeting(h *hearing, m greeting) {
	h.told = m.have
	if lacking := missing(b.journal(), m.have); len(lacking) > 0 {
		h.answer = letter(lacking[:min(len(lacking), api.MaxLetter)])
	} else if !within(m.have, h.numbers) {
		h.answer = greeting{b.n, h.numbers}
	}
}

// takeLetter adds the records of a letter: ErrState if one is not so here, or cannot be.
func (b *Branch) takeLetter(h *hearing, m letter) api.Errno {
	// Of each branch, the last record that is there.
	var last [api.MaxBranches]api.Record
	for i, l := range b.records {
		if len(l) > 0 {
			last[i] = l[len(l)-1]
		}
	}
	for _, x := range m {
		before := &last[x.Station]
		switch {
		case x.Number <= len(b.records[x.Station]):
			if b.records[x.Station][x.Number-1] != x {
				return api.ErrState
			}
		case x.Station == b.branch:
			return api.ErrState
		case x.Number > before.Number+1:
		case x.Day < before.Day:
			return api.ErrState
		default:
			*before = x
			h.changes = append(h.changes, added{x})
			h.numbers.Have[x.Station] = x.Number
		}
	}
	if len(h.changes) > 0 {
		h.answer = greeting{b.n, h.numbers}
	}
	return api.OK
}

// takeAsking gives a promise, if the pattern is not for somebody else.
func (b *Branch) takeAsking(h *hearing, m asking) api.Errno {
	if m.station != h.from {
		return api.ErrState
	}
	was, ok := b.promised(m.pattern)
	if m.until < h.day || ok && was.To != h.from && lasts(was, h.day) || ok && was.To == h.from && was.Number > m.number {
		return api.OK
	}
	p := b.renewed(api.Promise{Pattern: m.pattern, To: h.from, Number: m.number, Until: m.until})
	if p != was {
		h.changes = append(h.changes, promised(p))
	}
	h.answer = giving{b.branch, h.from, m.number, h.day, greeting{b.n, h.numbers}}
	return api.OK
}

// takeGiving counts what was given.
func (b *Branch) takeGiving(h *hearing, m giving) api.Errno {
	if m.station != b.branch || m.giver != h.from {
		return api.ErrState
	}
	h.told = m.have
	if m.day == h.day && b.awaits(m.number, h.day) {
		h.gift = gift{m.number, m.giver}
	}
	return api.OK
}

// takeFreeing shortens a promise that is not needed any more.
func (b *Branch) takeFreeing(h *hearing, m freeing) api.Errno {
	if m.station != h.from {
		return api.ErrState
	}
	p, ok := b.promised(m.pattern)
	if ok && p.To == h.from && p.Number <= m.number && p.Until > h.day {
		p.Until = h.day
		h.changes = append(h.changes, promised(p))
	}
	return api.OK
}

// take finds out what a message does.
func (b *Branch) take(h *hearing, m message) api.Errno {
	switch m := m.(type) {
	case greeting:
		b.takeGreeting(h, m)
	case letter:
		return b.takeLetter(h, m)
	case asking:
		return b.takeAsking(h, m)
	case giving:
		return b.takeGiving(h, m)
	case freeing:
		return b.takeFreeing(h, m)
	}
	return api.OK
}

// awaits reports whether a request is open, and its Until at least a day.
func (b *Branch) awaits(number, day int) bool {
	if number > len(b.requests) {
		return false
	}
	r := b.requests[number-1]
	return r.state == requestOpen && r.until >= day
}

// isGranted reports whether a majority has given behind what is heard, and all that those had who gave is there.
func (b *Branch) isGranted(h *hearing, number int) bool {
	givers := 1
	for giver := range b.n {
		key := gift{number, giver}
		g, ok := b.gifts[key]
		if key == h.gift {
			g, ok = given{h.day, h.told}, true
		}
		if !ok || g.day != h.day {
			continue
		}
		if !within(g.have, h.numbers) {
			return false
		}
		givers++
	}
	return givers > b.n/2
}

// grant grants the requests that are due.
func (b *Branch) grant(h *hearing) {
	c := granted{day: h.day}
	for i := range b.requests {
		if b.awaits(i+1, h.day) && b.isGranted(h, i+1) {
			c.numbers = append(c.numbers, i+1)
		}
	}
	if len(c.numbers) > 0 {
		h.changes = append(h.changes, c)
	}
}

// keep keeps what was told.
func (b *Branch) keep(h *hearing) {
	known := &b.heard[h.from].Have
	for i, x := range h.told.Have {
		known[i] = max(known[i], x)
	}
	if h.gift.number > 0 {
		b.gifts[h.gift] = given{h.day, h.told}
	}
}

// Hear processes a message of another branch, and returns the answer, or an empty string if there is none.
func (b *Branch) Hear(from int, m string, day int) (string, api.Errno) {
	if b == nil {
		return "", api.ErrNil
	}
	if !isDay(day) || from < 0 || from >= b.n || from == b.branch {
		return "", api.ErrArg
	}
	x := messageOf(b.n, m)
	if x == nil {
		return "", api.ErrForm
	}
	h := &hearing{from: from, day: day, numbers: b.have()}
	if e := b.take(h, x); e != api.OK {
		return "", e
	}
	b.grant(h)
	if e := b.commit(h.changes...); e != api.OK {
		return "", e
	}
	b.keep(h)
	if h.answer == nil {
		return "", api.OK
	}
	return h.answer.text(), api.OK
}
