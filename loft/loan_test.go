package loft_test

import (
	"fmt"
	"math/rand/v2"
	"slices"
	"strings"
	"testing"

	"strickle/api"
	"strickle/loft"
)

// apart requires that no pattern is on loan at two branches on one day, and counts how often it went from one to another.
func (p *play) apart() {
	p.t.Helper()
	for i, m := range p.models {
		for _, other := range p.models[:i] {
			for _, x := range m.loans {
				for _, y := range other.loans {
					if x.Pattern == y.Pattern && x.From <= y.Until && y.From <= x.Until {
						p.t.Fatalf("the branches %d and %d have the loans %v and %v", m.self, other.self, x, y)
					}
				}
			}
		}
	}
}

// handed counts how often a pattern went from one branch to another one.
func (p *play) handed() int {
	n := 0
	for i, m := range p.models {
		for _, other := range p.models[:i] {
			for _, x := range m.loans {
				if slices.ContainsFunc(other.loans, func(y api.Loan) bool { return x.Pattern == y.Pattern }) {
					n++
				}
			}
		}
	}
	return n
}

// P9.4: on no day two branches have loans in force for one pattern, whatever is lost, repeated, delayed, stopped and crashed.
func TestP94(t *testing.T) {
	t.Parallel()
	counts := plays(80, func(seed uint64) *play {
		p := newPlay(t, 1000+seed, 3+2*int(seed%2), []int{4000, 1000}[seed/2%2])
		p.watch = p.apart
		p.run(500, 4*int(seed%3))
		p.counts["handed"] += p.handed()
		return p
	})
	enough(t, counts, map[string]int{"handed": 300, "down": 100, "loans": 500})
}

// P9.5: what is sealed, as far as any branch knows, is known to each branch that has a pattern from a later day on.
func TestP95(t *testing.T) {
	t.Parallel()
	counts := plays(60, func(seed uint64) *play {
		p := newPlay(t, 2000+seed, 3+2*int(seed%2), 4000)
		// The first days on which records were sealed, and the loans that were looked at.
		days := map[[2]int]int{}
		loans := map[string]bool{}
		p.watch = func() {
			for i, b := range p.branches {
				for _, x := range p.models[i].loans {
					key := fmt.Sprint(i, x.Pattern, x.Number)
					if loans[key] {
						continue
					}
					loans[key] = true
					for record, day := range days {
						if day < x.From && b.Have().Have[record[0]] < record[1] {
							t.Fatalf("the branch %d has the loan %v without the record %v, sealed on the day %d", i, x, record, day)
						}
						if day < x.From && record[0] != i {
							p.counts["known"]++
						}
					}
				}
				for station, n := range b.Sealed().Have {
					for number := 1; number <= n; number++ {
						if _, ok := days[[2]int{station, number}]; !ok {
							days[[2]int{station, number}] = p.day
						}
					}
				}
			}
		}
		p.run(500, 5*int(seed%2))
		return p
	})
	enough(t, counts, map[string]int{"known": 2000, "loans": 300, "sealed": 1000})
}

// seal lets branches talk until what a branch has written is sealed, as far as it knows.
func (p *play) seal(at int) {
	p.t.Helper()
	b := p.branches[at]
	for range 60 {
		if b.Sealed().Have[at] == b.Have().Have[at] {
			return
		}
		p.talk(at)
		p.talk(p.r.IntN(p.n))
	}
	p.t.Fatalf("the records of %d are not sealed", at)
}

// fitting returns a text that touches a pattern, and may be refused.
func fitting(r *rand.Rand, pattern int) string {
	for {
		text := someText(r, []int{pattern})
		if meaning(text).pattern == pattern {
			return text
		}
	}
}

// merged returns the journal of all branches.
func merged(t *testing.T, l []*loft.Branch, n int) []api.Record {
	t.Helper()
	var all []api.Record
	for _, b := range l {
		var e errno
		all, e = loft.Merge(n, all, b.Records())
		if e != api.OK {
			t.Fatalf("Merge: error %d", e)
		}
	}
	return all
}

// P9.6: if each record that touches a pattern is sealed on a day of its loan, none is refused by Told of all.
func TestP96(t *testing.T) {
	t.Parallel()
	counts := plays(16, func(seed uint64) *play {
		p := newPlay(t, 3000+seed, 3+2*int(seed%2), 6000)
		for i := range p.n {
			p.do(p.adding(i, "new 100 "+slab, 0))
		}
		for range 100 {
			at, ids := p.r.IntN(p.n), p.ids()
			id := ids[p.r.IntN(len(ids))]
			switch p.r.IntN(9) {
			case 0:
				p.day += 1 + p.r.IntN(2)
			case 1, 2:
				p.do(p.wanting(at, id, p.day+p.r.IntN(6), p.day))
			case 3:
				p.do(p.freeing(at, id, p.day))
			case 4:
				p.fail(p.wanting(at, id, p.day+p.r.IntN(6), p.day))
			default:
				p.talk(at)
			}
			for at, b := range p.branches {
				for _, x := range b.Loans(p.day) {
					p.do(p.adding(at, fitting(p.r, x.Pattern), p.day))
				}
				p.seal(at)
			}
		}
		all := merged(t, p.branches, p.n)
		order, _ := loft.Order(p.n, all)
		_, ends, _ := loft.Told(p.n, all)
		for i, e := range ends {
			if e != api.OK && e != api.ErrText {
				t.Fatalf("%v is refused: error %d", order[i], e)
			}
			if meaning(order[i].Text).pattern > 0 {
				p.counts["touching"]++
			}
		}
		p.counts["handed"] += p.handed()
		return p
	})
	enough(t, counts, map[string]int{"touching": 400, "handed": 100, "Add41": 5})
}

// P9.7: of the records of one branch two others have first ones, and when all have heard all Letters they have the same.
func TestP97(t *testing.T) {
	t.Parallel()
	counts := plays(60, func(seed uint64) *play {
		p := newPlay(t, 4000+seed, 3+2*int(seed%2), 8000)
		p.watch = func() {
			for i, b := range p.branches {
				have := b.Have()
				for station, n := range have.Have[:p.n] {
					own := p.models[station].of(station)
					if n > len(own) || !slices.Equal(p.models[i].of(station), own[:n]) {
						t.Fatalf("the branch %d has the records %v of %d, which has %v", i, p.models[i].of(station), station, own)
					}
				}
			}
		}
		p.run(300, 5*int(seed%2))
		for i, b := range p.branches {
			if p.r.IntN(2) == 0 {
				add(t, b, fmt.Sprint("last words of ", i), p.day)
			}
		}
		p.watch = nil
		if len(p.branches[0].Records()) != len(merged(t, p.branches, p.n)) {
			p.counts["apart"]++
		}
		settle(p)
		first := p.branches[0].Records()
		book, _, _ := loft.Told(p.n, first)
		for i, b := range p.branches {
			l := b.Records()
			again, _, e := loft.Told(p.n, l)
			if !slices.Equal(l, first) || fmt.Sprint(again) != fmt.Sprint(book) || e != api.OK {
				t.Fatalf("the branch %d has %v, not %v", i, l, first)
			}
		}
		return p
	})
	enough(t, counts, map[string]int{"apart": 30, "heard": 1000})
}

// settle lets all branches hear all Letters of each other, in any order, and all answers until there are none.
func settle(p *play) {
	p.t.Helper()
	type letter struct {
		from, to int
		text     string
	}
	var under []letter
	for from, b := range p.branches {
		for _, text := range b.Letters(p.day) {
			for to := range p.n {
				if to != from {
					under = append(under, letter{from, to, text})
				}
			}
		}
	}
	for heard := 0; len(under) > 0; heard++ {
		if heard > 100000 {
			p.t.Fatalf("there is no end of answers")
		}
		i := p.r.IntN(len(under))
		x := under[i]
		under = slices.Delete(under, i, i+1)
		if answer := hear(p.t, p.branches[x.to], x.from, x.text, p.day); answer != "" {
			under = append(under, letter{x.to, x.from, answer})
		}
	}
}

// P9.9: a pattern that is promised to nobody goes to a branch that asks a majority, and has heard all of their records.
func TestP99(t *testing.T) {
	t.Parallel()
	counts := plays(60, func(seed uint64) *play {
		p := newPlay(t, 5000+seed, 3+2*int(seed%2), 8000)
		p.run(200, 5*int(seed%2))
		for range 10 {
			ids := p.ids()
			id := ids[p.r.IntN(len(ids))]
			for slices.ContainsFunc(p.branches, func(b *loft.Branch) bool {
				return slices.ContainsFunc(b.Promises(p.day), func(x api.Promise) bool { return x.Pattern == id })
			}) {
				p.day++
			}
			order := p.r.Perm(p.n)
			at, others := order[0], order[1:1+p.n/2]
			b := p.branches[at]
			number := want(t, b, id, p.day+p.r.IntN(5), p.day)
			for _, other := range others {
				for m := p.branches[at].Letters(p.day)[0]; m != ""; {
					if m = hear(t, p.branches[other], at, m, p.day); m != "" {
						m = hear(t, b, other, m, p.day)
					}
				}
			}
			for _, other := range others {
				for _, m := range b.Letters(p.day) {
					if strings.HasPrefix(m, fmt.Sprintf("ask %d %d ", at, number)) {
						hear(t, b, other, hear(t, p.branches[other], at, m, p.day), p.day)
						p.counts["asked"]++
					}
				}
			}
			if !slices.ContainsFunc(b.Loans(p.day), func(x api.Loan) bool { return x.Pattern == id && x.Number == number && x.From == p.day }) {
				t.Fatalf("the branch %d has not got the pattern %d on the day %d: %s", at, id, p.day, seen(b, p.day))
			}
		}
		return p
	})
	enough(t, counts, map[string]int{"asked": 500})
}

// T9: no pattern is on loan at two branches on one day; what is sealed is known to whoever has a pattern later; all that have heard all have one book.
func TestT9(t *testing.T) {
	l, _ := shop(t, 3, 4000)
	add(t, l[0], "new 100 "+slab, 1)
	want(t, l[0], 8, 9, 2)
	want(t, l[2], 8, 9, 2)
	// Each of both has asked 1, in a sequence of their own: only the first one gets it.
	talk(t, l, 2, 1, 2)
	talk(t, l, 0, 1, 2)
	talk(t, l, 2, 1, 2)
	if a, c := l[0].Loans(2), l[2].Loans(2); len(a) != 0 || !slices.Equal(c, []api.Loan{{Pattern: 8, From: 2, Until: 9, Number: 1}}) {
		t.Fatalf("Loans: %v, %v", a, c)
	}
	add(t, l[2], "do 8 cut 1", 3)
	talk(t, l, 2, 1, 3)
	talk(t, l, 1, 2, 3)
	if have := l[2].Sealed(); have.Have[2] != 1 {
		t.Fatalf("Sealed: %v", have)
	}
	// On the day behind its last one the other branch gets it, but not before it has what is sealed.
	want(t, l[0], 8, 20, 10)
	ask := l[0].Letters(10)[1]
	give := hear(t, l[1], 0, ask, 10)
	hear(t, l[0], 1, give, 10)
	if loans := l[0].Loans(10); len(loans) != 0 {
		t.Fatalf("Loans without the record: %v", loans)
	}
	talk(t, l, 0, 1, 10)
	if loans := l[0].Loans(10); len(loans) != 1 || l[0].Have().Have[2] != 1 {
		t.Fatalf("Loans with the record: %v", loans)
	}
	if _, e := l[0].Add("do 8 cut 1", 10); e != api.ErrCut {
		t.Errorf("the same cut again: error %d", e)
	}
	add(t, l[0], "do 8 cut 2", 10)
	talkAll(t, l, 10)
	book, ends, _ := loft.Told(3, l[0].Records())
	if len(book.Patterns) != 1 || len(book.Patterns[0].History.Acts) != 2 || !slices.Equal(ends, []errno{0, 0, 0}) {
		t.Errorf("Told: %v, %v", book, ends)
	}
	for _, b := range l[1:] {
		if again, _, _ := loft.Told(3, b.Records()); fmt.Sprint(again) != fmt.Sprint(book) {
			t.Errorf("Told: %v, not %v", again, book)
		}
	}
}
