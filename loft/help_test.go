package loft_test

import (
	"fmt"
	"math/rand/v2"
	"regexp"
	"slices"
	"strconv"
	"strings"
	"testing"

	"strickle/api"
	"strickle/loft"
	"strickle/solid"
	"strickle/trace"
)

// The text of the solid of one cell, and of some others.
const (
	oneCell = "1"
	slab    = "70707"
	pillar  = "0.1.1"
)

// errno is the end of a call, with a name for messages.
type errno = api.Errno

// number returns the number with a word: -1 if it has none in a range.
func number(word string, low, high int) int {
	x, err := strconv.Atoi(word)
	if err != nil || fmt.Sprint(x) != word || x < low || x > high {
		return -1
	}
	return x
}

// textForm is what the text of a record is like.
var textForm = regexp.MustCompile(`^[ -~]{1,240}$`)

// isText reports whether a string can be the text of a record.
func isText(s string) bool { return textForm.MatchString(s) }

// isGood reports whether a record is well-formed.
func isGood(n int, x api.Record) bool {
	return 0 <= x.Station && x.Station < n && 1 <= x.Number && x.Number <= 400 && 0 <= x.Day && x.Day <= 100000 && isText(x.Text)
}

// said is what a text says, told apart from the package.
type said struct {
	verb          string
	size, pattern int
	cells         api.Solid
	action        api.Action
}

// meaning returns what a text says: a verb that is empty if it has no form.
func meaning(text string) said {
	words := strings.SplitN(text, " ", 3)
	if len(words) < 3 {
		return said{}
	}
	x := said{verb: words[0]}
	var e errno
	switch words[0] {
	case "new":
		x.size = number(words[1], 1, 1000000)
		x.cells, e = solid.Read(words[2])
	case "keep":
		x.pattern = number(words[1], 1, 1000000)
		x.cells, e = solid.Read(words[2])
	case "do":
		x.pattern = number(words[1], 1, 1000000)
		x.action, e = trace.Read(words[2])
	default:
		return said{}
	}
	if e != api.OK || x.size < 0 || x.pattern < 0 || x.verb != "do" && solid.Count(x.cells) == 0 {
		return said{}
	}
	return x
}

// before reports whether a record is ahead of another one in the one order.
func before(x, y api.Record) bool {
	if x.Day != y.Day {
		return x.Day < y.Day
	}
	if x.Station != y.Station {
		return x.Station < y.Station
	}
	return x.Number < y.Number
}

// sorted returns records in the one order.
func sorted(l []api.Record) []api.Record {
	l = slices.Clone(l)
	for i := range l {
		for j := i; j > 0 && before(l[j], l[j-1]); j-- {
			l[j], l[j-1] = l[j-1], l[j]
		}
	}
	return l
}

// kept returns a pattern of a list: nil if there is none.
func kept(l []api.Kept, id int) *api.Kept {
	for i := range l {
		if l[i].Id == id {
			return &l[i]
		}
	}
	return nil
}

// told returns the book of records, and their errors in the one order, as the chapter says.
func told(l []api.Record) (api.Book, []errno) {
	l = sorted(l)
	ends := make([]errno, len(l))
	var shelf []api.Kept
	for i, x := range l {
		switch m := meaning(x.Text); m.verb {
		case "":
			ends[i] = api.ErrText
		case "new":
			shelf = append(shelf, api.Kept{Id: 8*x.Number + x.Station, Size: m.size, Station: x.Station, History: api.History{Pattern: api.Pattern{Blank: m.cells}}})
		}
	}
	slices.SortFunc(shelf, func(x, y api.Kept) int { return x.Id - y.Id })
	for i, x := range l {
		m := meaning(x.Text)
		if m.verb != "keep" && m.verb != "do" {
			continue
		}
		p := kept(shelf, m.pattern)
		switch {
		case p == nil:
			ends[i] = api.ErrNone
		case m.verb == "do":
			h, e := trace.Act(p.History, m.action)
			if e == api.OK {
				p.History = h
			}
			ends[i] = e
		case len(p.History.Pattern.Pieces) == 8:
			ends[i] = api.ErrLimit
		default:
			p.History.Pattern.Pieces = append(p.History.Pattern.Pieces, m.cells)
		}
	}
	return api.Book{Patterns: shelf}, ends
}

// someText returns a text of a record, which may touch a pattern with one of the Ids.
func someText(r *rand.Rand, ids []int) string {
	id := 8
	if len(ids) > 0 {
		id = ids[r.IntN(len(ids))]
	}
	cells := []string{oneCell, "2", "4", "7", "100", pillar, "0.1", "0.2"}[r.IntN(8)]
	switch r.IntN(12) {
	case 0:
		return fmt.Sprintf("new %d %s", 1+r.IntN(1000000), slab)
	case 1:
		return fmt.Sprintf("new %d %s", 1+r.IntN(10), cells)
	case 2, 3:
		return fmt.Sprintf("keep %d %s", id, cells)
	case 4, 5, 6:
		return fmt.Sprintf("do %d cut %s", id, cells)
	case 7, 8:
		return fmt.Sprintf("do %d fit %d", id, r.IntN(3))
	case 9:
		return fmt.Sprintf("do %d take %d", id, r.IntN(3))
	case 10:
		return []string{"metal tin 1/100 1/50", "do 8 cut 0", "new 0 1", "new 1 0", "keep 8", "new 5 1 ", " ", "~", "do 8 rest", "keep 08 1", "New 5 1", "do 8  fit 0", "keep 1000001 1", "new 1000001 1"}[r.IntN(14)]
	}
	return fmt.Sprintf("paid %d %d", id, r.IntN(100))
}

// someJournal returns a journal of n branches, of so many records of each one at most.
func someJournal(r *rand.Rand, n, most int) []api.Record {
	var l []api.Record
	var ids []int
	for station := range n {
		ids = append(ids, 8+station)
	}
	for station := range n {
		day := r.IntN(3)
		for i := range r.IntN(most + 1) {
			text := someText(r, ids)
			if i == 0 && r.IntN(4) > 0 {
				text = "new 100 " + slab
			}
			l = append(l, api.Record{Station: station, Number: i + 1, Day: day, Text: text})
			day += r.IntN(3)
		}
	}
	return l
}

// firsts returns, of a journal, some first records of each branch.
func firsts(r *rand.Rand, l []api.Record) []api.Record {
	var most [api.MaxBranches]int
	for _, x := range l {
		most[x.Station] = max(most[x.Station], x.Number)
	}
	for i := range most {
		most[i] = r.IntN(most[i] + 1)
	}
	var short []api.Record
	for _, x := range l {
		if x.Number <= most[x.Station] {
			short = append(short, x)
		}
	}
	return short
}

// disk returns a disk of so many sectors.
func disk(sectors int) *loft.Disk {
	d, e := loft.NewDisk(sectors)
	if e != api.OK {
		panic("no disk")
	}
	return d
}

// open opens a branch that must be there.
func open(t *testing.T, d *loft.Disk, branch, n int) *loft.Branch {
	t.Helper()
	b, e := loft.Open(d, branch, n)
	if b == nil || e != api.OK {
		t.Fatalf("Open(%d, %d): %v, error %d", branch, n, b, e)
	}
	return b
}

// shop opens n branches on new disks.
func shop(t *testing.T, n, sectors int) ([]*loft.Branch, []*loft.Disk) {
	t.Helper()
	var l []*loft.Branch
	var disks []*loft.Disk
	for i := range n {
		disks = append(disks, disk(sectors))
		l = append(l, open(t, disks[i], i, n))
	}
	return l, disks
}

// numbered returns numbers of records.
func numbered(l ...int) api.Have {
	var have api.Have
	copy(have.Have[:], l)
	return have
}

// add writes a record, which must be possible.
func add(t *testing.T, b *loft.Branch, text string, day int) int {
	t.Helper()
	i, e := b.Add(text, day)
	if e != api.OK {
		t.Fatalf("Add(%q, %d): error %d", text, day, e)
	}
	return i
}

// want makes a request, which must be possible.
func want(t *testing.T, b *loft.Branch, pattern, until, day int) int {
	t.Helper()
	i, e := b.Want(pattern, until, day)
	if e != api.OK {
		t.Fatalf("Want(%d, %d, %d): error %d", pattern, until, day, e)
	}
	return i
}

// hear lets a branch hear a message, which must be possible, and returns the answer.
func hear(t *testing.T, b *loft.Branch, from int, m string, day int) string {
	t.Helper()
	answer, e := b.Hear(from, m, day)
	if e != api.OK {
		t.Fatalf("Hear(%d, %q, %d): error %d", from, m, day, e)
	}
	return answer
}

// talk lets two branches hear Letters of each other, and all answers.
func talk(t *testing.T, l []*loft.Branch, from, to, day int) {
	t.Helper()
	for _, m := range l[from].Letters(day) {
		for at, other := to, from; m != ""; at, other = other, at {
			m = hear(t, l[at], other, m, day)
		}
	}
}

// talkAll lets all branches hear all Letters of each other, often enough.
func talkAll(t *testing.T, l []*loft.Branch, day int) {
	t.Helper()
	for range 3 {
		for from := range l {
			for to := range l {
				if from != to {
					talk(t, l, from, to, day)
				}
			}
		}
	}
}

// seen returns all that can be seen of a branch without a call that has an effect, on some days.
func seen(b *loft.Branch, days ...int) string {
	text := fmt.Sprint(b.Records(), b.Have(), b.Sealed())
	for _, day := range days {
		text += fmt.Sprintf(" %d: %v %v %q", day, b.Promises(day), b.Loans(day), b.Letters(day))
	}
	return text
}
