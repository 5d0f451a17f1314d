package loft_test

import (
	"fmt"
	"math/rand/v2"
	"slices"
	"strings"
	"testing"

	"strickle/api"
	"strickle/loft"
)

// play is a shop whose branches do something, one step after the other, each beside a model.
type play struct {
	t        *testing.T
	r        *rand.Rand
	n, day   int
	branches []*loft.Branch
	disks    []*loft.Disk
	models   []*model
	// lines are the messages under way, by sender and receiver.
	lines map[[2]int][]string
	// falls is whether days may fall, and wild whether messages are changed.
	falls, wild bool
	sectors     int
	// watch looks at the whole shop behind each step, if there is something to be looked at.
	watch func()
	// counts are how often something has happened.
	counts map[string]int
}

// newPlay begins a play.
func newPlay(t *testing.T, seed uint64, n, sectors int) *play {
	t.Helper()
	p := &play{t: t, r: rand.New(rand.NewPCG(seed, 9)), n: n, sectors: sectors, lines: map[[2]int][]string{}, counts: map[string]int{}}
	p.branches, p.disks = shop(t, n, sectors)
	for i := range n {
		p.models = append(p.models, newModel(i, n))
	}
	return p
}

// ids returns the Ids of some patterns, among them all that there are.
func (p *play) ids() []int {
	ids := []int{8, 9}
	for _, m := range p.models {
		for _, x := range m.of(m.self) {
			if meaning(x.Text).verb == "new" {
				ids = append(ids, 8*x.Number+x.Station)
			}
		}
	}
	return ids
}

// step is something that a branch does, and that its model does.
type step struct {
	at   int
	name string
	do   func(b *loft.Branch) (string, errno)
	as   func(m *model) (string, errno)
	// then is what follows from the result.
	then func(result string)
}

// adding returns the step that writes a record.
func (p *play) adding(at int, text string, day int) step {
	return step{at: at, name: fmt.Sprintf("Add(%q, %d)", text, day), do: func(b *loft.Branch) (string, errno) {
		i, e := b.Add(text, day)
		return fmt.Sprint(i), e
	}, as: func(m *model) (string, errno) {
		i, e := m.add(text, day)
		return fmt.Sprint(i), e
	}}
}

// wanting returns the step that makes a request.
func (p *play) wanting(at, pattern, until, day int) step {
	return step{at: at, name: fmt.Sprintf("Want(%d, %d, %d)", pattern, until, day), do: func(b *loft.Branch) (string, errno) {
		i, e := b.Want(pattern, until, day)
		return fmt.Sprint(i), e
	}, as: func(m *model) (string, errno) {
		i, e := m.want(pattern, until, day)
		return fmt.Sprint(i), e
	}}
}

// freeing returns the step that lets a pattern go.
func (p *play) freeing(at, pattern, day int) step {
	return step{at: at, name: fmt.Sprintf("Free(%d, %d)", pattern, day), do: func(b *loft.Branch) (string, errno) {
		return "", b.Free(pattern, day)
	}, as: func(m *model) (string, errno) {
		return "", m.free(pattern, day)
	}}
}

// hearing returns the step that hears a message.
func (p *play) hearing(from, at int, text string, day int) step {
	return step{at: at, name: fmt.Sprintf("Hear(%d, %q, %d)", from, text, day), do: func(b *loft.Branch) (string, errno) {
		return b.Hear(from, text, day)
	}, as: func(m *model) (string, errno) {
		return m.hear(from, text, day)
	}, then: func(answer string) {
		if answer != "" {
			p.put(at, from, answer)
		}
	}}
}

// put puts a message on a line.
func (p *play) put(from, to int, text string) {
	if from < 0 || from >= p.n || from == to {
		return
	}
	key := [2]int{from, to}
	p.lines[key] = append(p.lines[key], text)
	if len(p.lines[key]) > 60 {
		p.lines[key] = p.lines[key][30:]
	}
}

// mutated returns a text that differs a little.
func mutated(r *rand.Rand, text string) string {
	words := strings.Split(text, " ")
	i := r.IntN(len(words))
	switch r.IntN(6) {
	case 0:
		words[i] = fmt.Sprint(r.IntN(12))
	case 1:
		words[i] = []string{"", "-1", "07", "401", "301", "1000001", "100001", "11", "+2", "400", "300"}[r.IntN(11)]
	case 2:
		words = slices.Insert(words, i, fmt.Sprint(r.IntN(4)))
	case 3:
		words = slices.Delete(words, i, i+1)
	case 4:
		at := r.IntN(len(text) + 1)
		return text[:at] + string([]byte{" \n1~0\x00\x7fa"[r.IntN(8)]}) + text[at:]
	default:
		at := r.IntN(len(text) + 1)
		return text[:at] + text[min(at+1, len(text)):]
	}
	return strings.Join(words, " ")
}

// crafted returns a message that nobody may have sent.
func (p *play) crafted(from, to int) string {
	one := func(most int) int { return p.r.IntN(most + 1) }
	has := func() string {
		l := make([]int, p.n)
		for i := range l {
			l[i] = one(4)
		}
		return spaced(l)
	}
	id := p.ids()[p.r.IntN(len(p.ids()))]
	switch p.r.IntN(5) {
	case 0:
		return "have " + has() + "\n"
	case 1:
		return fmt.Sprintf("ask %d %d %d %d\n", from, 1+one(9), id, p.day+one(12)-2)
	case 2:
		return fmt.Sprintf("give %d %d %d %d %s\n", from, to, 1+one(9), p.day-one(4)/4, has())
	case 3:
		return fmt.Sprintf("free %d %d %d\n", from, 1+one(9), id)
	}
	lines := []string{}
	for _, x := range someJournal(p.r, p.n, 2) {
		lines = append(lines, fmt.Sprintf("%d %d %d %s\n", x.Station, x.Number, x.Day, x.Text))
	}
	lines = lines[:min(len(lines), 10)]
	return fmt.Sprintf("post %d\n%s", len(lines), strings.Join(lines, ""))
}

// next returns a step that may be the next one: one that is named empty if there is none.
func (p *play) next() step {
	at := p.r.IntN(p.n)
	ids := p.ids()
	id := ids[p.r.IntN(len(ids))]
	day := p.day
	if p.wild && p.r.IntN(40) == 0 {
		day = []int{-1, 100001, 100000}[p.r.IntN(3)]
	}
	switch p.r.IntN(16) {
	case 0, 1, 2:
		text := someText(p.r, ids)
		if p.r.IntN(20) == 0 {
			text = []string{"", strings.Repeat("x", 241), strings.Repeat("y", 240), "a\n", "\x7f"}[p.r.IntN(5)]
		}
		return p.adding(at, text, day)
	case 3, 4:
		return p.wanting(at, id, p.day+p.r.IntN(8)-p.r.IntN(20)/19, day)
	case 5:
		return p.freeing(at, id, day)
	}
	from := p.r.IntN(p.n)
	key := [2]int{from, at}
	if p.wild && p.r.IntN(8) == 0 {
		return p.hearing(from, at, p.crafted(from, at), day)
	}
	l := p.lines[key]
	if len(l) == 0 {
		return step{}
	}
	i := p.r.IntN(len(l))
	text := l[i]
	if p.r.IntN(4) > 0 {
		p.lines[key] = slices.Delete(slices.Clone(l), i, i+1)
	}
	if p.wild && p.r.IntN(10) == 0 {
		text = mutated(p.r, text)
	}
	return p.hearing(from, at, text, day)
}

// days returns the days on which branches are looked at. (On the day 0 all promises and all requests are seen that were not granted.)
func (p *play) days() []int { return []int{0, max(0, p.day-3), p.day, p.day + 1, p.day + 9} }

// same requires a branch to be as its model.
func (p *play) same(m *model, b *loft.Branch) bool {
	return seen(b, p.days()...) == m.seen(p.days()...)
}

// do does a step at a branch and its model.
func (p *play) do(x step) {
	p.t.Helper()
	m, b := p.models[x.at], p.branches[x.at]
	cost := m.cost
	after := m.clone()
	want, e := x.as(after)
	got, f := x.do(b)
	if f == api.ErrFull && e == api.OK && 2*after.cost > p.sectors {
		p.counts["full"]++
		after = m
	} else if got != want || e != f {
		p.t.Fatalf("%d: %s: %q, error %d, want %q, error %d", x.at, x.name, got, f, want, e)
	} else if e == api.OK && x.then != nil {
		x.then(got)
	}
	p.models[x.at] = after
	p.counts[fmt.Sprint(x.name[:3], f)]++
	if after.cost > cost {
		p.counts["durable"]++
	}
	if !p.same(after, b) {
		p.t.Fatalf("%d: behind %s: %s, want %s", x.at, x.name, seen(b, p.days()...), after.seen(p.days()...))
	}
	p.look()
}

// look looks at the shop.
func (p *play) look() {
	if p.watch != nil {
		p.watch()
	}
}

// keeps returns how much is kept of some writes.
func keeps(r *rand.Rand) []int {
	var l []int
	for range r.IntN(60) {
		l = append(l, []int{64, 64, 0, r.IntN(65), 63, r.IntN(65), 70, -1}[r.IntN(8)])
	}
	return l
}

// reopen opens a branch again, with power that may fail meanwhile.
func (p *play) reopen(at int) {
	p.t.Helper()
	d := p.disks[at]
	for range p.r.IntN(3) {
		d.Stop(p.r.IntN(5))
		if b, e := loft.Open(d, at, p.n); e != api.OK && (e != api.ErrDown || b != nil) || d.Down() != (e != api.OK) {
			p.t.Fatalf("Open(%d, %d): error %d", at, p.n, e)
		}
		d.Crash(keeps(p.r))
	}
	p.branches[at] = open(p.t, d, at, p.n)
}

// fail does a step while the power may fail, and opens the branch again.
func (p *play) fail(x step) {
	p.t.Helper()
	m, b, d := p.models[x.at], p.branches[x.at], p.disks[x.at]
	after := m.clone()
	want, e := x.as(after)
	d.Stop(p.r.IntN(9))
	got, f := x.do(b)
	switch {
	case f == api.ErrDown && e == api.OK && got == zeroOf(got):
		p.counts["down"]++
		if !d.Down() {
			p.t.Fatalf("%d: %s: ErrDown, but the disk is up", x.at, x.name)
		}
		// Further operations have no effect, whether the disk is down or up.
		if p.r.IntN(2) == 0 {
			d.Crash(keeps(p.r))
		}
		for range 2 {
			if i, e := b.Add("any", api.MaxDay); i != 0 || e != api.ErrDown {
				p.t.Fatalf("%d: behind ErrDown: %d, error %d", x.at, i, e)
			}
			d.Crash(keeps(p.r))
		}
	case f == api.ErrFull && e == api.OK && 2*after.cost > p.sectors:
		after = m
	case got != want || e != f:
		p.t.Fatalf("%d: %s: %q, error %d, want %q, error %d", x.at, x.name, got, f, want, e)
	case e == api.OK:
		// It is durable now.
		m = after
		if x.then != nil {
			x.then(got)
		}
	}
	d.Crash(keeps(p.r))
	p.reopen(x.at)
	m, after = m.forgetful(), after.forgetful()
	switch b := p.branches[x.at]; {
	case p.same(after, b):
		p.models[x.at] = after
		if f == api.ErrDown && after.cost > m.cost {
			p.counts["whole"]++
		}
	case p.same(m, b):
		p.models[x.at] = m
	default:
		p.t.Fatalf("%d: opened behind %s: %s, want %s, or %s", x.at, x.name, seen(b, p.days()...), m.seen(p.days()...), after.seen(p.days()...))
	}
	p.look()
}

// zeroOf returns the zero result for one.
func zeroOf(result string) string {
	if result == "0" {
		return "0"
	}
	return ""
}

// send puts all Letters of a branch on its lines.
func (p *play) send(from int) {
	for to := range p.n {
		for _, text := range p.branches[from].Letters(p.day) {
			p.put(from, to, text)
		}
	}
}

// talk lets a branch tell its Letters to the others, and all hear the answers, but for some that stay on their lines.
func (p *play) talk(from int) {
	p.t.Helper()
	for _, to := range p.r.Perm(p.n) {
		if to == from {
			continue
		}
		for _, text := range p.branches[from].Letters(p.day) {
			for at, other := to, from; text != "" && p.r.IntN(8) > 0; at, other = other, at {
				x := p.hearing(other, at, text, p.day)
				text = ""
				x.then = func(answer string) { text = answer }
				p.do(x)
			}
			p.put(from, to, text)
		}
	}
}

// run does so many steps; one of fails while the power fails.
func (p *play) run(steps, fails int) {
	p.t.Helper()
	for range steps {
		switch p.r.IntN(12) {
		case 0:
			p.day += p.r.IntN(3)
			if p.falls && p.r.IntN(3) == 0 {
				p.day = max(0, p.day-p.r.IntN(6))
			}
		case 1, 2:
			p.send(p.r.IntN(p.n))
		case 3:
			p.talk(p.r.IntN(p.n))
		default:
			x := p.next()
			if x.name == "" {
				continue
			}
			if fails > 0 && p.r.IntN(fails) == 0 {
				p.fail(x)
			} else {
				p.do(x)
			}
		}
	}
}

// plays runs plays of so many seeds, and returns how often something has happened in them.
func plays(seeds int, run func(seed uint64) *play) map[string]int {
	counts := map[string]int{}
	for seed := range uint64(seeds) {
		p := run(seed)
		for name, n := range p.counts {
			counts[name] += n
		}
		for _, m := range p.models {
			counts["loans"] += len(m.loans)
			for _, x := range m.sealed() {
				counts["sealed"] += x
			}
			for _, x := range m.records {
				if x.Station != m.self {
					counts["heard"]++
				}
			}
		}
	}
	return counts
}

// enough requires some things to have happened often enough.
func enough(t *testing.T, counts map[string]int, least map[string]int) {
	t.Helper()
	for name, n := range least {
		if counts[name] < n {
			t.Errorf("%s: only %d times, of %v", name, counts[name], counts)
		}
	}
}

// I7 to I12, P9.1: branches are as the chapter says, whatever is done and told.
func TestP91Plays(t *testing.T) {
	t.Parallel()
	counts := plays(60, func(seed uint64) *play {
		p := newPlay(t, seed, 3+2*int(seed%2), 4000)
		p.wild, p.falls = seed%3 > 0, seed%4 == 3
		p.run(600, 0)
		return p
	})
	enough(t, counts, map[string]int{
		"Add0": 500, "Add1": 100, "Add40": 10, "Add5": 10, "Add7": 100, "Add94": 500, "Wan0": 500, "Wan1": 30, "Wan94": 100, "Fre0": 100, "Fre1": 5, "Fre5": 100,
		"Hea0": 5000, "Hea1": 100, "Hea4": 500, "Hea8": 100, "loans": 300, "sealed": 1000, "heard": 1000, "durable": 1000,
	})
}

// P9.3: what an operation that returned OK changed is there behind each crash, and one that did not is there as a whole or not at all.
func TestP93Plays(t *testing.T) {
	t.Parallel()
	counts := plays(60, func(seed uint64) *play {
		p := newPlay(t, seed, 3+2*int(seed%2), 4000)
		p.wild, p.falls = seed%3 == 0, seed%4 == 3
		p.run(600, 3)
		return p
	})
	enough(t, counts, map[string]int{"down": 200, "whole": 40, "loans": 300, "sealed": 300, "heard": 1000, "durable": 1000})
}

// P9.1: ErrFull is possible only if operations have cost more than half of the sectors, and has no effect.
func TestP91Full(t *testing.T) {
	t.Parallel()
	counts := plays(60, func(seed uint64) *play {
		p := newPlay(t, seed, 3+2*int(seed%2), 64+int(seed)*2)
		p.run(800, 12*int(seed%2))
		return p
	})
	enough(t, counts, map[string]int{"full": 100, "loans": 50, "heard": 300, "durable": 1000})
}
