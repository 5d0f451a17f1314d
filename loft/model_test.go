package loft_test

import (
	"fmt"
	"regexp"
	"slices"
	"strings"

	"strickle/api"
)

// wish is a request of a model.
type wish struct {
	number, pattern, until int
	open, freed            bool
}

// word is what a branch has said to have given, in a model.
type word struct {
	number, giver, day int
	have               []int
}

// model is a branch as the chapter says, without a disk.
type model struct {
	self, n  int
	records  []api.Record
	wishes   []wish
	promises []api.Promise
	loans    []api.Loan
	heard    [api.MaxBranches][api.MaxBranches]int
	words    []word
	// cost is what the operations have cost that had an effect.
	cost int
}

func newModel(self, n int) *model { return &model{self: self, n: n} }

// clone returns a model that is the same.
func (m *model) clone() *model {
	c := *m
	c.records, c.wishes, c.promises, c.loans = slices.Clone(m.records), slices.Clone(m.wishes), slices.Clone(m.promises), slices.Clone(m.loans)
	c.words = slices.Clone(m.words)
	return &c
}

// forgetful returns the model behind a crash.
func (m *model) forgetful() *model {
	c := m.clone()
	c.heard, c.words = [api.MaxBranches][api.MaxBranches]int{}, nil
	return c
}

// of returns the records of a branch.
func (m *model) of(station int) []api.Record {
	var l []api.Record
	for _, x := range m.records {
		if x.Station == station {
			l = append(l, x)
		}
	}
	return l
}

// journal returns the records by Station.
func (m *model) journal() []api.Record {
	var l []api.Record
	for station := range m.n {
		l = append(l, m.of(station)...)
	}
	return l
}

// have returns how many records of each branch there are.
func (m *model) have() []int {
	l := make([]int, m.n)
	for _, x := range m.records {
		l[x.Station]++
	}
	return l
}

// isSealed reports whether a record is sealed.
func (m *model) isSealed(station, number int) bool {
	having := 0
	for who := range m.n {
		has := m.heard[who][station]
		if who == m.self {
			has = m.have()[station]
		}
		if has >= number {
			having++
		}
	}
	return 2*having > m.n
}

// sealed returns how many first records of each branch are sealed.
func (m *model) sealed() []int {
	l := make([]int, m.n)
	for station := range m.n {
		for m.isSealed(station, l[station]+1) {
			l[station]++
		}
	}
	return l
}

// promise returns the own promise for a pattern: nil if there is none.
func (m *model) promise(pattern int) *api.Promise {
	for i := range m.promises {
		if m.promises[i].Pattern == pattern {
			return &m.promises[i]
		}
	}
	return nil
}

// promised returns the own promises that are in force.
func (m *model) promised(day int) []api.Promise {
	var l []api.Promise
	for _, p := range m.promises {
		if day <= p.Until {
			l = append(l, p)
		}
	}
	slices.SortFunc(l, func(p, q api.Promise) int { return p.Pattern - q.Pattern })
	return l
}

// lent returns the loans that are in force.
func (m *model) lent(day int) []api.Loan {
	var l []api.Loan
	for _, x := range m.loans {
		if x.From <= day && day <= x.Until {
			l = append(l, x)
		}
	}
	slices.SortFunc(l, func(x, y api.Loan) int { return 1000*(x.Pattern-y.Pattern) + x.Number - y.Number })
	return l
}

// has reports whether a pattern is on loan on a day.
func (m *model) has(pattern, day int) bool {
	return slices.ContainsFunc(m.lent(day), func(x api.Loan) bool { return x.Pattern == pattern })
}

// words returns numbers with blanks between.
func spaced(l []int) string { return strings.Trim(fmt.Sprint(l), "[]") }

func (m *model) greeting() string { return "have " + spaced(m.have()) + "\n" }

// letters returns what is to be told.
func (m *model) letters(day int) []string {
	l := []string{m.greeting()}
	for _, w := range m.wishes {
		if w.open && w.until >= day {
			l = append(l, fmt.Sprintf("ask %d %d %d %d\n", m.self, w.number, w.pattern, w.until))
		}
	}
	wishes := slices.Clone(m.wishes)
	slices.SortStableFunc(wishes, func(v, w wish) int { return v.pattern - w.pattern })
	for i, w := range wishes {
		isLast := i+1 == len(wishes) || wishes[i+1].pattern != w.pattern
		if isLast && w.freed && w.until >= day {
			l = append(l, fmt.Sprintf("free %d %d %d\n", m.self, w.number, w.pattern))
		}
	}
	return l
}

// add writes a record.
func (m *model) add(text string, day int) (int, errno) {
	own := m.of(m.self)
	x := api.Record{Station: m.self, Number: len(own) + 1, Day: day, Text: text}
	said := meaning(text)
	switch {
	case day < 0 || day > 100000 || !isText(text):
		return 0, api.ErrArg
	case len(own) > 0 && own[len(own)-1].Day > day:
		return 0, api.ErrTime
	case len(own) == 400:
		return 0, api.ErrLimit
	case said.pattern != 0 && !m.has(said.pattern, day):
		return 0, api.ErrLent
	}
	all := append(slices.Clone(m.records), x)
	_, ends := told(all)
	if e := ends[slices.Index(sorted(all), x)]; e != api.OK && said.verb != "" {
		return 0, e
	}
	m.records = all
	m.cost += 9
	return x.Number, api.OK
}

// give makes a promise, and reports whether that changes anything.
func (m *model) give(to, number, pattern, until, day int) bool {
	p := m.promise(pattern)
	if p == nil {
		m.promises = append(m.promises, api.Promise{Pattern: pattern, To: to, Number: number, Until: until})
		return true
	}
	was := *p
	if p.To == to && p.Until >= day {
		until = max(until, p.Until)
	}
	*p = api.Promise{Pattern: pattern, To: to, Number: number, Until: until}
	return *p != was
}

// want makes a request.
func (m *model) want(pattern, until, day int) (int, errno) {
	p := m.promise(pattern)
	switch {
	case day < 0 || day > 100000 || pattern < 1 || pattern > 1000000 || until < day || until > day+30 || until > 100000:
		return 0, api.ErrArg
	case p != nil && p.Until >= day && p.To != m.self:
		return 0, api.ErrLent
	case len(m.wishes) == 300:
		return 0, api.ErrLimit
	}
	for i := range m.wishes {
		if m.wishes[i].pattern == pattern {
			m.wishes[i].open, m.wishes[i].freed = false, false
		}
	}
	number := len(m.wishes) + 1
	m.wishes = append(m.wishes, wish{number: number, pattern: pattern, until: until, open: true})
	m.give(m.self, number, pattern, until, day)
	m.cost += 9
	return number, api.OK
}

// free lets a pattern go.
func (m *model) free(pattern, day int) errno {
	if day < 0 || day > 100000 {
		return api.ErrArg
	}
	isOpen := slices.ContainsFunc(m.wishes, func(w wish) bool { return w.open && w.pattern == pattern })
	if !m.has(pattern, day) && !isOpen {
		return api.ErrNone
	}
	before := fmt.Sprint(m.loans, m.promises, m.wishes)
	for i, x := range m.loans {
		if x.Pattern == pattern && x.From <= day && day <= x.Until {
			m.loans[i].Until = day
		}
	}
	if p := m.promise(pattern); p != nil && p.To == m.self && p.Until >= day {
		p.Until = day
	}
	last := -1
	for i := range m.wishes {
		if m.wishes[i].pattern == pattern {
			m.wishes[i].open = false
			last = i
		}
	}
	m.wishes[last].freed = true
	if fmt.Sprint(m.loans, m.promises, m.wishes) != before {
		m.cost += 9
	}
	return api.OK
}

// The forms of messages, for n branches, but for their ranges.
var (
	haveForm = regexp.MustCompile(`^have((?: \d+)+)\n$`)
	postForm = regexp.MustCompile(`^post (\d+)\n((?:.*\n)+)$`)
	askForm  = regexp.MustCompile(`^ask (\d+) (\d+) (\d+) (\d+)\n$`)
	giveForm = regexp.MustCompile(`^give (\d+) (\d+) (\d+) (\d+)((?: \d+)+)\n$`)
	freeForm = regexp.MustCompile(`^free (\d+) (\d+) (\d+)\n$`)
	lineForm = regexp.MustCompile(`^(\d+) (\d+) (\d+) ([ -~]{1,240})$`)
)

// numbers returns numbers in ranges (each a least and a greatest one): nil if they are not so.
func numbers(words []string, ranges ...int) []int {
	if 2*len(words) != len(ranges) {
		return nil
	}
	l := []int{}
	for i, word := range words {
		x := number(word, ranges[2*i], ranges[2*i+1])
		if x < 0 {
			return nil
		}
		l = append(l, x)
	}
	return l
}

// counts returns the numbers of records of n branches.
func counts(n int, text string) []int {
	return numbers(strings.Fields(text), slices.Repeat([]int{0, 400}, n)...)
}

// recordOf returns the record with a line.
func recordOf(n int, line string) (api.Record, bool) {
	w := lineForm.FindStringSubmatch(line)
	if w == nil {
		return api.Record{}, false
	}
	l := numbers(w[1:4], 0, n-1, 1, 400, 0, 100000)
	if l == nil {
		return api.Record{}, false
	}
	return api.Record{Station: l[0], Number: l[1], Day: l[2], Text: w[4]}, true
}

// post returns the records of a letter: none if it is none.
func post(n int, m string) []api.Record {
	w := postForm.FindStringSubmatch(m)
	if w == nil {
		return nil
	}
	lines := strings.Split(strings.TrimSuffix(w[2], "\n"), "\n")
	if number(w[1], 1, 10) != len(lines) {
		return nil
	}
	var l []api.Record
	for i, line := range lines {
		x, ok := recordOf(n, line)
		if !ok || i > 0 && l[i-1].Station*1000+l[i-1].Number >= x.Station*1000+x.Number {
			return nil
		}
		l = append(l, x)
	}
	return l
}

// hear processes a message.
func (m *model) hear(from int, text string, day int) (string, errno) {
	if day < 0 || day > 100000 || from < 0 || from >= m.n || from == m.self {
		return "", api.ErrArg
	}
	answer, paid, e := m.take(from, text, day)
	if e != api.OK {
		return "", e
	}
	if m.grant(day) {
		m.cost += 9
	}
	m.cost += paid
	return answer, api.OK
}

// take does what a message says, and returns the answer and what that costs.
func (m *model) take(from int, text string, day int) (string, int, errno) {
	if w := haveForm.FindStringSubmatch(text); w != nil {
		if has := counts(m.n, w[1]); has != nil {
			return m.hearGreeting(from, has), 0, api.OK
		}
	}
	if l := post(m.n, text); l != nil {
		return m.hearLetter(l)
	}
	if w := askForm.FindStringSubmatch(text); w != nil {
		if l := numbers(w[1:], 0, m.n-1, 1, 300, 1, 1000000, 0, 100000); l != nil {
			return m.hearAsk(from, l, day)
		}
	}
	if w := giveForm.FindStringSubmatch(text); w != nil {
		l, has := numbers(w[1:5], 0, m.n-1, 0, m.n-1, 1, 300, 0, 100000), counts(m.n, w[5])
		if l != nil && has != nil {
			return "", 0, m.hearGive(from, l, has, day)
		}
	}
	if w := freeForm.FindStringSubmatch(text); w != nil {
		if l := numbers(w[1:], 0, m.n-1, 1, 300, 1, 1000000); l != nil {
			paid, e := m.hearFree(from, l, day)
			return "", paid, e
		}
	}
	return "", 0, api.ErrForm
}

// note keeps what somebody has.
func (m *model) note(from int, has []int) {
	for station, x := range has {
		m.heard[from][station] = max(m.heard[from][station], x)
	}
}

func (m *model) hearGreeting(from int, has []int) string {
	m.note(from, has)
	lines, isMore := []string{}, false
	for _, x := range m.journal() {
		if x.Number > has[x.Station] && len(lines) < 10 {
			lines = append(lines, fmt.Sprintf("%d %d %d %s\n", x.Station, x.Number, x.Day, x.Text))
		}
	}
	for station, x := range m.have() {
		isMore = isMore || has[station] > x
	}
	switch {
	case len(lines) > 0:
		return fmt.Sprintf("post %d\n%s", len(lines), strings.Join(lines, ""))
	case isMore:
		return m.greeting()
	}
	return ""
}

func (m *model) hearLetter(l []api.Record) (string, int, errno) {
	was, paid := m.records, 4
	for _, x := range l {
		own := m.of(x.Station)
		if x.Number <= len(own) && own[x.Number-1] == x || x.Number > len(own)+1 && x.Station != m.self {
			continue
		}
		if x.Station == m.self || x.Number <= len(own) || len(own) > 0 && own[len(own)-1].Day > x.Day {
			m.records = was
			return "", 0, api.ErrState
		}
		m.records = append(slices.Clone(m.records), x)
		paid += 8
	}
	if len(m.records) == len(was) {
		return "", 0, api.OK
	}
	return m.greeting(), paid, api.OK
}

func (m *model) hearAsk(from int, l []int, day int) (string, int, errno) {
	number, pattern, until := l[1], l[2], l[3]
	if l[0] != from {
		return "", 0, api.ErrState
	}
	if until < day {
		return "", 0, api.OK
	}
	if p := m.promise(pattern); p != nil {
		if p.To != from && p.Until >= day || p.To == from && p.Number > number {
			return "", 0, api.OK
		}
	}
	paid := 0
	if m.give(from, number, pattern, until, day) {
		paid = 9
	}
	return fmt.Sprintf("give %d %d %d %d %s\n", m.self, from, number, day, spaced(m.have())), paid, api.OK
}

func (m *model) hearGive(from int, l, has []int, day int) errno {
	giver, to, number, given := l[0], l[1], l[2], l[3]
	if to != m.self || giver != from {
		return api.ErrState
	}
	m.note(from, has)
	if number > len(m.wishes) {
		return api.OK
	}
	if w := m.wishes[number-1]; w.open && w.until >= day && given == day {
		m.words = slices.DeleteFunc(m.words, func(x word) bool { return x.number == number && x.giver == giver })
		m.words = append(m.words, word{number, giver, day, has})
	}
	return api.OK
}

func (m *model) hearFree(from int, l []int, day int) (int, errno) {
	if l[0] != from {
		return 0, api.ErrState
	}
	p := m.promise(l[2])
	if p == nil || p.To != from || p.Number > l[1] || p.Until <= day {
		return 0, api.OK
	}
	p.Until = day
	return 9, api.OK
}

// grant grants what is due, and reports whether there is anything.
func (m *model) grant(day int) bool {
	some := false
	for i, w := range m.wishes {
		givers, isKnown := 1, true
		for _, x := range m.words {
			if x.number != w.number || x.day != day {
				continue
			}
			givers++
			for station, has := range x.have {
				isKnown = isKnown && m.have()[station] >= has
			}
		}
		if w.open && w.until >= day && 2*givers > m.n && isKnown {
			m.wishes[i].open = false
			m.loans = append(m.loans, api.Loan{Pattern: w.pattern, From: day, Until: w.until, Number: w.number})
			some = true
		}
	}
	return some
}

// seen returns all that can be seen of a branch without a call that has an effect, on some days.
func (m *model) seen(days ...int) string {
	text := fmt.Sprint(m.journal(), numbered(m.have()...), numbered(m.sealed()...))
	for _, day := range days {
		text += fmt.Sprintf(" %d: %v %v %q", day, m.promised(day), m.lent(day), m.letters(day))
	}
	return text
}
