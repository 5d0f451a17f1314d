package loft_test

import (
	"fmt"
	"slices"
	"testing"

	"strickle/api"
	"strickle/loft"
)

// P9.1: the chapter's table of examples, but that each line of a message has its line feed.
func TestP91Examples(t *testing.T) {
	if loft.IdOf(1, 3) != 25 || loft.IdOf(0, 401) != 0 {
		t.Errorf("IdOf: %d, %d", loft.IdOf(1, 3), loft.IdOf(0, 401))
	}
	if line, e := loft.WriteRecord(3, api.Record{Station: 1, Number: 3, Day: 7, Text: "do 8 fit 0"}); line != "1 3 7 do 8 fit 0" || e != api.OK {
		t.Errorf("WriteRecord: %q, error %d", line, e)
	}
	l, _ := shop(t, 3, 4000)
	a, b, c := l[0], l[1], l[2]
	same := func(got, want any) {
		t.Helper()
		if fmt.Sprintf("%q %v", got, got) != fmt.Sprintf("%q %v", want, want) {
			t.Errorf("%q, want %q", got, want)
		}
	}
	same(add(t, a, "new 100 "+oneCell, 1), 1)
	_, e := a.Add("keep 8 "+oneCell, 1)
	_, f := a.Add("do 8 fit 0", 0)
	same([]errno{e, f}, []errno{api.ErrLent, api.ErrTime})
	same(want(t, a, 8, 9, 2), 1)
	same(a.Letters(2), []string{"have 1 0 0\n", "ask 0 1 8 9\n"})
	_, e = a.Want(8, 40, 2)
	same(e, api.ErrArg)
	same(hear(t, b, 0, "ask 0 1 8 9\n", 2), "give 1 0 1 2 0 0 0\n")
	same(b.Promises(2), []api.Promise{{Pattern: 8, To: 0, Number: 1, Until: 9}})
	same(want(t, c, 8, 5, 3), 1)
	same(hear(t, b, 2, "ask 2 1 8 5\n", 3), "")
	same(hear(t, a, 1, "give 1 0 1 2 0 0 0\n", 3), "")
	same(a.Loans(3), []api.Loan{})
	give := hear(t, b, 0, "ask 0 1 8 9\n", 4)
	same(give, "give 1 0 1 4 0 0 0\n")
	same(hear(t, a, 1, give, 4), "")
	same(a.Loans(4), []api.Loan{{Pattern: 8, From: 4, Until: 9, Number: 1}})
	same(add(t, a, "keep 8 "+oneCell, 4), 2)
	same(a.Sealed(), api.Have{})
	greeting := hear(t, b, 0, "have 2 0 0\n", 4)
	same(greeting, "have 0 0 0\n")
	post := hear(t, a, 1, greeting, 4)
	same(post, "post 2\n0 1 1 new 100 1\n0 2 4 keep 8 1\n")
	greeting = hear(t, b, 0, post, 4)
	same(greeting, "have 2 0 0\n")
	same(hear(t, a, 1, greeting, 4), "")
	same(a.Sealed(), numbered(2, 0, 0))
	same(a.Free(8, 7), api.OK)
	same(a.Loans(7), []api.Loan{{Pattern: 8, From: 4, Until: 7, Number: 1}})
	same(a.Loans(8), []api.Loan{})
	same(a.Letters(7), []string{"have 2 0 0\n", "free 0 1 8\n"})
	same(hear(t, b, 0, "free 0 1 8\n", 7), "")
	same(b.Promises(7), []api.Promise{{Pattern: 8, To: 0, Number: 1, Until: 7}})
	same(b.Promises(8), []api.Promise{})
	book, ends, e := loft.Told(3, a.Records())
	if cell := (api.Solid{1}); len(book.Patterns) != 1 || e != api.OK {
		t.Errorf("Told: %v, error %d", book, e)
	} else if x := book.Patterns[0]; x.Id != 8 || x.Size != 100 || x.Station != 0 || x.History.Pattern.Blank != cell || !slices.Equal(x.History.Pattern.Pieces, []api.Solid{cell}) || len(x.History.Acts) != 0 {
		t.Errorf("Told: %v", x)
	}
	same(ends, []errno{api.OK, api.OK})
}

// I7 to I12 with rule R5: a nil branch.
func TestP91NilBranch(t *testing.T) {
	var b *loft.Branch
	i, e := b.Add("", -1)
	j, f := b.Want(0, -1, -1)
	m, g := b.Hear(9, "", -1)
	if i != 0 || j != 0 || m != "" || e != api.ErrNil || f != api.ErrNil || g != api.ErrNil || b.Free(0, -1) != api.ErrNil {
		t.Errorf("%d, %d, %q, errors %d, %d, %d, %d", i, j, m, e, f, g, b.Free(0, -1))
	}
	if len(b.Records()) > 0 || b.Have() != (api.Have{}) || b.Sealed() != (api.Have{}) || len(b.Promises(1)) > 0 || len(b.Loans(1)) > 0 || len(b.Letters(1)) > 0 {
		t.Errorf("a nil branch has something")
	}
}

// behind returns a list with room behind its elements, and the whole of its memory.
func behind[T any](l []T, x T) (short, whole []T) {
	whole = append(append(make([]T, 0, len(l)+2), l...), x, x)
	return whole[:len(l)], whole
}

// overwrite writes over a list and behind its end.
func overwrite[T any](l []T, x T) {
	l = l[:cap(l)]
	for i := range l {
		l[i] = x
	}
}

// few is a journal with a pattern that has a kept piece and acts.
func few() []api.Record {
	return []api.Record{
		{Number: 1, Day: 5, Text: "new 100 " + slab}, {Number: 2, Day: 5, Text: "keep 8 " + pillar},
		{Station: 2, Number: 1, Day: 3, Text: "do 8 cut 4"}, {Station: 2, Number: 2, Day: 6, Text: "do 8 cut 1"}, {Station: 2, Number: 3, Day: 7, Text: "paid 8 1"},
	}
}

// P9.1 with rule R3: arguments stay as they are, also behind their ends.
func TestP91ArgumentsStay(t *testing.T) {
	a, wholeA := behind(few()[:2], api.Record{Text: "behind"})
	b, wholeB := behind(few()[2:], api.Record{Text: "behind"})
	before := fmt.Sprint(wholeA, wholeB)
	for _, l := range [][]api.Record{a, b} {
		loft.CheckRecords(3, l)
		loft.Order(3, l)
		loft.Told(3, l)
		loft.Missing(3, l, api.Have{})
	}
	loft.Merge(3, a, b)
	loft.Merge(3, b, a)
	if after := fmt.Sprint(wholeA, wholeB); after != before {
		t.Errorf("the arguments are %s now, not %s", after, before)
	}
}

// P9.1 with rules R3 and R4: what is written into a result changes no argument, no part of the same result, and no later one.
func TestP91NewMemory(t *testing.T) {
	l := few()
	wrong := api.Record{Station: 4, Text: "wrong"}
	b := open(t, disk(400), 0, 3)
	for _, x := range l[:2] {
		if x.Text != "keep 8 "+pillar {
			add(t, b, x.Text, x.Day)
		}
	}
	want(t, b, 8, 9, 5)
	hear(t, b, 1, "ask 1 1 9 9\n", 5)
	hear(t, b, 1, "give 1 0 1 5 0 0 0\n", 5)
	say := func() string {
		text := fmt.Sprint(l, seen(b, 5))
		order, _ := loft.Order(3, l)
		merged, _ := loft.Merge(3, l, l[:1])
		lacking, _ := loft.Missing(3, l, api.Have{})
		records, promises, loans, letters := b.Records(), b.Promises(5), b.Loans(5), b.Letters(5)
		book, ends, _ := loft.Told(3, l)
		text += fmt.Sprint(order, merged, lacking, records, promises, loans, letters, book, ends)
		for _, records := range [][]api.Record{order, merged, lacking, records} {
			overwrite(records, wrong)
		}
		overwrite(promises, api.Promise{Pattern: 1})
		overwrite(loans, api.Loan{Pattern: 1})
		overwrite(letters, "wrong")
		overwrite(ends, -1)
		for i := range book.Patterns {
			h := &book.Patterns[i].History
			pieces := fmt.Sprint(h.Pattern.Pieces)
			overwrite(h.Acts, api.Action{Piece: 99})
			if fmt.Sprint(h.Pattern.Pieces) != pieces {
				t.Fatalf("the pieces are %v now, not %s", h.Pattern.Pieces, pieces)
			}
			overwrite(h.Pattern.Pieces, api.Solid{99})
		}
		overwrite(book.Patterns, api.Kept{Id: 99})
		return text
	}
	if first, again := say(), say(); first != again {
		t.Errorf("%s, then %s", first, again)
	}
	if loans := b.Loans(5); len(loans) != 1 || len(b.Promises(5)) != 2 {
		t.Errorf("Loans: %v, Promises: %v", loans, b.Promises(5))
	}
}
