package loft_test

import (
	"fmt"
	"math/rand/v2"
	"reflect"
	"slices"
	"strings"
	"testing"

	"strickle/api"
	"strickle/loft"
)

// I4: Ids of records.
func TestI4IdOf(t *testing.T) {
	for key, want := range map[[2]int]int{{0, 1}: 8, {1, 3}: 25, {4, 400}: 3204, {0, 0}: 0, {0, 401}: 0, {5, 1}: 0, {-1, 1}: 0, {4, -1}: 0, {1, 0}: 0, {3, 400}: 3203} {
		if id := loft.IdOf(key[0], key[1]); id != want {
			t.Errorf("IdOf(%d, %d): %d, want %d", key[0], key[1], id, want)
		}
	}
}

// I4, P9.10: lines of records.
func TestI4Lines(t *testing.T) {
	good := api.Record{Station: 1, Number: 3, Day: 7, Text: "do 8 fit 0"}
	change := func(f func(*api.Record)) api.Record {
		x := good
		f(&x)
		return x
	}
	for _, n := range []int{3, 5} {
		for i, x := range []api.Record{
			good,
			change(func(x *api.Record) { x.Station = -1 }), change(func(x *api.Record) { x.Station = 0 }), change(func(x *api.Record) { x.Station = 2 }), change(func(x *api.Record) { x.Station = 3 }), change(func(x *api.Record) { x.Station = 4 }), change(func(x *api.Record) { x.Station = 5 }),
			change(func(x *api.Record) { x.Number = 0 }), change(func(x *api.Record) { x.Number = -1 }), change(func(x *api.Record) { x.Number = 1 }), change(func(x *api.Record) { x.Number = 400 }), change(func(x *api.Record) { x.Number = 401 }),
			change(func(x *api.Record) { x.Day = -1 }), change(func(x *api.Record) { x.Day = 0 }), change(func(x *api.Record) { x.Day = 100000 }), change(func(x *api.Record) { x.Day = 100001 }),
			change(func(x *api.Record) { x.Text = "" }), change(func(x *api.Record) { x.Text = " " }), change(func(x *api.Record) { x.Text = "  two  blanks " }), change(func(x *api.Record) { x.Text = strings.Repeat("~", 240) }), change(func(x *api.Record) { x.Text = strings.Repeat("~", 241) }),
			change(func(x *api.Record) { x.Text = "a\nb" }), change(func(x *api.Record) { x.Text = "a\n" }), change(func(x *api.Record) { x.Text = "\x1f" }), change(func(x *api.Record) { x.Text = "\x7f" }), change(func(x *api.Record) { x.Text = "\u00e9" }),
		} {
			text, e := loft.WriteRecord(n, x)
			if !isGood(n, x) {
				if text != "" || e != api.ErrArg {
					t.Errorf("%d: WriteRecord(%d, %v): %q, error %d", i, n, x, text, e)
				}
				continue
			}
			if want := fmt.Sprintf("%d %d %d %s", x.Station, x.Number, x.Day, x.Text); text != want || e != api.OK {
				t.Errorf("WriteRecord(%d, %v): %q, error %d", n, x, text, e)
			}
			if back, e := loft.ReadRecord(n, text); back != x || e != api.OK {
				t.Errorf("ReadRecord(%d, %q): %v, error %d", n, text, back, e)
			}
		}
	}
	for _, n := range []int{-1, 0, 1, 2, 4, 6} {
		if text, e := loft.WriteRecord(n, good); text != "" || e != api.ErrArg {
			t.Errorf("WriteRecord(%d, ..): %q, error %d", n, text, e)
		}
		for _, line := range []string{"1 3 7 a", "a"} {
			if x, e := loft.ReadRecord(n, line); x != (api.Record{}) || e != api.ErrArg {
				t.Errorf("ReadRecord(%d, ..): %v, error %d", n, x, e)
			}
		}
	}
}

// I4, P9.10: each line that differs a little is that of the record that is written so, or of none.
func TestI4Read(t *testing.T) {
	r := rand.New(rand.NewPCG(9, 2))
	none := 0
	lines := []string{"", " ", "1", "1 3", "1 3 7", "1 3 7 ", "1 3 7  ", "01 3 7 a", "1 +3 7 a", "1 3 -0 a", "1 3 7\ta", " 1 3 7 a", "1  3 7 a", "1 3 7 a\n", "3 3 7 a", "1 3 1e2 a", "1 3 99999999999999999999 a"}
	for range 3000 {
		x := api.Record{Station: r.IntN(3), Number: 1 + r.IntN(400), Day: r.IntN(100001), Text: someText(r, nil)}
		line, _ := loft.WriteRecord(3, x)
		lines = append(lines, mutated(r, line))
	}
	for _, line := range lines {
		want, ok := recordOf(3, line)
		x, e := loft.ReadRecord(3, line)
		if x != want || ok != (e == api.OK) || e != api.OK && e != api.ErrForm {
			t.Fatalf("ReadRecord(%q): %v, error %d", line, x, e)
		}
		if !ok {
			none++
		} else if back, _ := loft.WriteRecord(3, x); back != line {
			t.Fatalf("WriteRecord(%v): %q, not %q", x, back, line)
		}
	}
	if none < 500 || none > 2500 {
		t.Errorf("%d of %d lines are none", none, len(lines))
	}
}

// refusedOf returns why a record of a list is refused: OK if it is not.
func refusedOf(n int, l []api.Record, i int) errno {
	x := l[i]
	if !isGood(n, x) {
		return api.ErrArg
	}
	if i > 0 && 1000*x.Station+x.Number <= 1000*l[i-1].Station+l[i-1].Number {
		return api.ErrTwice
	}
	isNext := i > 0 && l[i-1].Station == x.Station
	if isNext && x.Number != l[i-1].Number+1 || !isNext && x.Number != 1 {
		return api.ErrGap
	}
	if isNext && x.Day < l[i-1].Day {
		return api.ErrTime
	}
	return api.OK
}

// checked returns what CheckRecords must return.
func checked(n int, l []api.Record) (int, errno) {
	if n != 3 && n != 5 {
		return 0, api.ErrArg
	}
	for i := range l {
		if e := refusedOf(n, l, i); e != api.OK {
			return i, e
		}
	}
	return 0, api.OK
}

// damaged returns a journal with some faults.
func damaged(r *rand.Rand, l []api.Record) []api.Record {
	l = slices.Clone(l)
	for range r.IntN(3) {
		if len(l) == 0 {
			break
		}
		i := r.IntN(len(l))
		switch r.IntN(8) {
		case 0:
			l[i].Number += r.IntN(5) - 2
		case 1:
			l[i].Station += r.IntN(5) - 2
		case 2:
			l[i].Day += r.IntN(7) - 3
		case 3:
			l[i].Text = []string{"", "x", "\n"}[r.IntN(3)]
		case 4:
			l = slices.Delete(l, i, i+1)
		case 5:
			l = slices.Insert(l, i, l[i])
		case 6:
			j := r.IntN(len(l))
			l[i], l[j] = l[j], l[i]
		case 7:
			l[i].Number = []int{0, 1, 400, 401}[r.IntN(4)]
		}
	}
	return l
}

// I5, I6: which lists are journals, and what functions say of those that are not.
func TestI5CheckRecords(t *testing.T) {
	r := rand.New(rand.NewPCG(9, 3))
	counts := map[errno]int{}
	for range 6000 {
		n := []int{3, 5, 3, 5, 3, 5, 4, 0}[r.IntN(8)]
		l := damaged(r, someJournal(r, 3+2*r.IntN(2), 5))
		at, want := checked(n, l)
		counts[want]++
		if i, e := loft.CheckRecords(n, l); i != at || e != want {
			t.Fatalf("CheckRecords(%d, %v): %d, error %d, want %d, error %d", n, l, i, e, at, want)
		}
		order, e := loft.Order(n, l)
		if e != want || e != api.OK && len(order) > 0 || e == api.OK && !slices.Equal(order, sorted(l)) {
			t.Fatalf("Order(%d, %v): %v, error %d, want error %d", n, l, order, e, want)
		}
		book, ends, e := loft.Told(n, l)
		if e != want || e != api.OK && (len(book.Patterns) > 0 || len(ends) > 0) {
			t.Fatalf("Told(%d, %v): %v, %v, error %d, want error %d", n, l, book, ends, e, want)
		}
		lacking, e := loft.Missing(n, l, api.Have{})
		if e != want || e != api.OK && len(lacking) > 0 {
			t.Fatalf("Missing(%d, %v): %v, error %d, want error %d", n, l, lacking, e, want)
		}
		other := damaged(r, l)
		if want == api.OK {
			_, want = checked(n, other)
		}
		both, e := loft.Merge(n, l, other)
		if want != api.OK && (e != want || len(both) > 0) || want == api.OK && e != api.OK && e != api.ErrPart {
			t.Fatalf("Merge(%d, %v, %v): %v, error %d, want error %d", n, l, other, both, e, want)
		}
	}
	for _, e := range []errno{api.OK, api.ErrArg, api.ErrTwice, api.ErrGap, api.ErrTime} {
		if counts[e] < 100 {
			t.Errorf("only %d lists with the error %d", counts[e], e)
		}
	}
}

// I6: what records say, and why some are refused.
func TestI6Told(t *testing.T) {
	r := rand.New(rand.NewPCG(9, 4))
	counts := map[errno]int{}
	for i := range 400 {
		n := 3 + 2*r.IntN(2)
		l := someJournal(r, n, []int{6, 40}[i%2])
		book, ends, e := loft.Told(n, l)
		want, errors := told(l)
		if !reflect.DeepEqual(normal(book), normal(want)) || !slices.Equal(ends, errors) || e != api.OK {
			t.Fatalf("Told(%d, %v): %v, %v, error %d, want %v, %v", n, l, book, ends, e, want, errors)
		}
		for _, e := range ends {
			counts[e]++
		}
	}
	for _, e := range []errno{api.OK, api.ErrText, api.ErrNone, api.ErrLimit, api.ErrArg, api.ErrCut, api.ErrPlace, api.ErrPiece} {
		if counts[e] < 5 {
			t.Errorf("only %d records with the error %d: %v", counts[e], e, counts)
		}
	}
}

// normal returns a book with nil slices in the place of empty ones.
func normal(b api.Book) []api.Kept {
	var l []api.Kept
	for _, x := range b.Patterns {
		x.History.Acts = append([]api.Action(nil), x.History.Acts...)
		x.History.Pattern.Pieces = append([]api.Solid(nil), x.History.Pattern.Pieces...)
		l = append(l, x)
	}
	return l
}

// I6: patterns are there for all records, limits of pieces and acts, and the forms of texts.
func TestI6ToldCases(t *testing.T) {
	tell := func(texts ...string) (api.Book, []errno) {
		t.Helper()
		var l []api.Record
		for i, text := range texts {
			l = append(l, api.Record{Number: i + 1, Text: text})
		}
		book, ends, e := loft.Told(3, l)
		if e != api.OK {
			t.Fatalf("Told(%v): error %d", l, e)
		}
		return book, ends
	}
	// The pattern 24 is made behind what is said of it.
	if book, ends := tell("keep 24 1", "do 24 cut 1", "new 5 3"); !slices.Equal(ends, []errno{0, 0, 0}) || len(book.Patterns) != 1 || len(book.Patterns[0].History.Acts) != 1 {
		t.Errorf("Told: %v, %v", book, ends)
	}
	texts := []string{"new 5 3"}
	for range 9 {
		texts = append(texts, "keep 8 4")
	}
	if _, ends := tell(texts...); ends[8] != api.OK || ends[9] != api.ErrLimit {
		t.Errorf("Told of nine pieces: %v", ends)
	}
	texts = []string{"new 5 3", "keep 8 4"}
	for range 30 {
		texts = append(texts, "do 8 fit 0", "do 8 take 0")
	}
	if book, ends := tell(append(texts, "do 8 fit 0")...); ends[61] != api.OK || ends[62] != api.ErrLimit || len(book.Patterns[0].History.Acts) != 60 {
		t.Errorf("Told of 61 acts: %v", ends)
	}
	for text, want := range map[string]errno{
		"new 1 1": api.OK, "new 1000000 1": api.OK, "new 0 1": api.ErrText, "new 1000001 1": api.ErrText, "new 01 1": api.ErrText, "new 1 0": api.ErrText, "new 1 01": api.ErrText, "new 1": api.ErrText, "new 1 1 1": api.ErrText, "new  1 1": api.ErrText, "new 1 1 ": api.ErrText, " new 1 1": api.ErrText, "new": api.ErrText, "new 1 0.0": api.ErrText, "New 1 1": api.ErrText, "new -1 1": api.ErrText,
		"keep 1 1": api.ErrNone, "keep 1000000 1": api.ErrNone, "keep 0 1": api.ErrText, "keep 1000001 1": api.ErrText, "keep 1 0": api.ErrText, "keep 1 g": api.ErrText, "keep 1": api.ErrText,
		"do 1 fit 0": api.ErrNone, "do 1000000 take 7": api.ErrNone, "do 0 fit 0": api.ErrText, "do 1 fit 8": api.ErrText, "do 1 cut 0": api.ErrText, "do 1 cut 1": api.ErrNone, "do 1 cut": api.ErrText, "do 1 ": api.ErrText, "do 1": api.ErrText, "do 1 fit 0 ": api.ErrText, "do 1  fit 0": api.ErrText, "do 1 rest": api.ErrText, "undo 1 fit 0": api.ErrText, "x": api.ErrText,
	} {
		if _, ends := tell(text); !slices.Equal(ends, []errno{want}) {
			t.Errorf("Told of %q: %v, want %d", text, ends, want)
		}
	}
}

// I6, P9.8: merged journals, and what is missing.
func TestP98(t *testing.T) {
	r := rand.New(rand.NewPCG(9, 5))
	parted, more := 0, 0
	merge := func(n int, a, b []api.Record) ([]api.Record, errno) {
		l, e := loft.Merge(n, a, b)
		again, f := loft.Merge(n, b, a)
		if !slices.Equal(l, again) || e != f {
			t.Fatalf("Merge(%d, %v, %v): %v, error %d, and %v, error %d", n, a, b, l, e, again, f)
		}
		return l, e
	}
	for range 3000 {
		n := 3 + 2*r.IntN(2)
		whole := someJournal(r, n, 5)
		a, b, c := firsts(r, whole), firsts(r, whole), firsts(r, whole)
		if r.IntN(4) == 0 && len(b) > 0 {
			b[r.IntN(len(b))].Text = "another one"
		}
		differ := slices.ContainsFunc(a, func(x api.Record) bool {
			return slices.ContainsFunc(b, func(y api.Record) bool { return x.Station == y.Station && x.Number == y.Number && x != y })
		})
		ab, e := merge(n, a, b)
		if differ {
			parted++
			if e != api.ErrPart || len(ab) > 0 {
				t.Fatalf("Merge(%d, %v, %v): %v, error %d", n, a, b, ab, e)
			}
			continue
		}
		var union []api.Record
		for _, x := range slices.Concat(a, b) {
			if !slices.Contains(union, x) {
				union = append(union, x)
			}
		}
		slices.SortFunc(union, func(x, y api.Record) int { return 1000*(x.Station-y.Station) + x.Number - y.Number })
		if !slices.Equal(ab, union) || e != api.OK {
			t.Fatalf("Merge(%d, %v, %v): %v, error %d", n, a, b, ab, e)
		}
		if same, _ := merge(n, ab, a); !slices.Equal(same, ab) {
			t.Fatalf("Merge(%d, %v, %v): %v", n, ab, a, same)
		}
		bc, e := merge(n, b, c)
		if e == api.OK {
			left, e := merge(n, ab, c)
			right, f := merge(n, a, bc)
			if !slices.Equal(left, right) || e != f {
				t.Fatalf("Merge of three: %v, error %d, and %v, error %d", left, e, right, f)
			}
		}
		// What is missing to the one is what the other one adds.
		var have api.Have
		for _, x := range b {
			have.Have[x.Station]++
		}
		lacking, e := loft.Missing(n, a, have)
		added := slices.DeleteFunc(slices.Clone(ab), func(x api.Record) bool { return slices.Contains(b, x) })
		if !slices.Equal(lacking, added) || e != api.OK {
			t.Fatalf("Missing(%d, %v, %v): %v, error %d, want %v", n, a, have, lacking, e, added)
		}
		more += len(added)
	}
	if parted < 100 || more < 1000 {
		t.Errorf("%d pairs differ, %d records were added", parted, more)
	}
}

// I6: the numbers of Missing may be any.
func TestI6Missing(t *testing.T) {
	l := []api.Record{{Number: 1, Text: "a"}, {Number: 2, Text: "b"}, {Station: 2, Number: 1, Text: "c"}}
	for _, c := range []struct {
		have api.Have
		want []api.Record
	}{
		{numbered(), l}, {numbered(-5, -1, -1<<63, 7, 7), l}, {numbered(1), l[1:]}, {numbered(2), l[2:]}, {numbered(1<<62, 0, 0), l[2:]}, {numbered(0, 9, 1), l[:2]}, {numbered(2, 0, 1), nil},
	} {
		if lacking, e := loft.Missing(3, l, c.have); !slices.Equal(lacking, c.want) || e != api.OK {
			t.Errorf("Missing(%v): %v, error %d", c.have, lacking, e)
		}
	}
}
