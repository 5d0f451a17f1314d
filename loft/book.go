package loft

import (
	"maps"
	"slices"

	"strickle/api"
	"strickle/trace"
)

// shelf is patterns, at their Ids.
type shelf map[int]*api.Kept

// pattern returns a pattern: ErrNone if there is none.
func (s shelf) pattern(id int) (*api.Kept, api.Errno) {
	x, ok := s[id]
	if !ok {
		return nil, api.ErrNone
	}
	return x, api.OK
}

// patterns returns all patterns, by ascending Id.
func (s shelf) patterns() []api.Kept {
	var l []api.Kept
	for _, id := range slices.Sorted(maps.Keys(s)) {
		l = append(l, *s[id])
	}
	return l
}

// book is the patterns that records speak of, and for each record why it was refused.
type book struct {
	shelf
	ends []api.Errno
}

func (d making) enter(b *book, id, station int) api.Errno {
	x := &api.Kept{Id: id, Size: d.size, Station: station}
	x.History.Pattern.Blank = d.wood
	b.shelf[id] = x
	return api.OK
}

func (d keeping) enter(b *book, _, _ int) api.Errno {
	x, e := b.pattern(d.pattern)
	if e != api.OK {
		return e
	}
	p := &x.History.Pattern
	if len(p.Pieces) == api.MaxKept {
		return api.ErrLimit
	}
	p.Pieces = append(p.Pieces, d.piece)
	return api.OK
}

func (d acting) enter(b *book, _, _ int) api.Errno {
	x, e := b.pattern(d.pattern)
	if e != api.OK {
		return e
	}
	h, e := trace.Act(x.History, d.action)
	if e != api.OK {
		return e
	}
	x.History = h
	return api.OK
}

// tell enters records, which are in the one order.
func tell(l []api.Record) *book {
	b := &book{shelf{}, make([]api.Errno, len(l))}
	deeds := make([]deed, len(l))
	enter := func(i int) { b.ends[i] = deeds[i].enter(b, IdOf(l[i].Station, l[i].Number), l[i].Station) }
	for i, x := range l {
		deeds[i] = deedOf(x.Text)
		switch deeds[i].(type) {
		case nil:
			b.ends[i] = api.ErrText
		case making:
			enter(i)
		}
	}
	// A pattern is there for all records, also for those in front of the one that made it.
	for i, d := range deeds {
		switch d.(type) {
		case keeping, acting:
			enter(i)
		}
	}
	return b
}

// Told returns the book of a journal, and for each record in the one order why it was refused: OK if it was not.
func Told(n int, l []api.Record) (api.Book, []api.Errno, api.Errno) {
	if _, e := CheckRecords(n, l); e != api.OK {
		return api.Book{}, nil, e
	}
	b := tell(inOrder(l))
	return api.Book{Patterns: b.patterns()}, b.ends, api.OK
}
