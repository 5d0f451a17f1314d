package loft_test

import (
	"fmt"
	"slices"
	"strings"
	"testing"

	"strickle/api"
	"strickle/loft"
)

// fill fills the disk of the branch 0 of three, by promises to the branch 1.
func fill(t *testing.T, b *loft.Branch, day int) {
	t.Helper()
	for until := day; ; until++ {
		switch _, e := b.Hear(1, fmt.Sprintf("ask 1 1 900000 %d\n", until), day); e {
		case api.OK:
		case api.ErrFull:
			return
		default:
			t.Fatalf("Hear: error %d", e)
		}
	}
}

// down makes a disk be down.
func down(d *loft.Disk) {
	d.Stop(0)
	d.Flush()
}

// lend lets the branch 0 of three have a pattern on loan.
func lend(t *testing.T, b *loft.Branch, pattern, until, day int) {
	t.Helper()
	number := want(t, b, pattern, until, day)
	hear(t, b, 1, fmt.Sprintf("give 1 0 %d %d 0 0 0\n", number, day), day)
	if !slices.ContainsFunc(b.Loans(day), func(x api.Loan) bool { return x.Number == number }) {
		t.Fatalf("no loan: %s", seen(b, day))
	}
}

// faults are things that can be wrong, of which the errors are returned in this order.
type faults[T any] []struct {
	e  errno
	do func(*T)
}

// each calls f for all sets of faults, with the error that is due.
func (l faults[T]) each(f func(T, errno)) {
	for some := range 1 << len(l) {
		var x T
		e := api.OK
		// The first fault is done last: its error is due.
		for i, fault := range slices.Backward(l) {
			if some>>i&1 == 1 {
				fault.do(&x)
				e = fault.e
			}
		}
		f(x, e)
	}
}

// I7: a disk opens as the branch whose journal it contains, and as no other one.
func TestI7Open(t *testing.T) {
	for _, c := range [][2]int{{0, 0}, {0, 1}, {0, 2}, {0, 4}, {0, 6}, {-1, 3}, {3, 3}, {5, 5}, {-1, 5}, {1 << 40, 3}} {
		for _, d := range []*loft.Disk{nil, disk(64)} {
			if b, e := loft.Open(d, c[0], c[1]); b != nil || e != api.ErrArg {
				t.Errorf("Open(%d, %d): %v, error %d", c[0], c[1], b, e)
			}
		}
	}
	if b, e := loft.Open(nil, 0, 3); b != nil || e != api.ErrNil {
		t.Errorf("Open of nil: %v, error %d", b, e)
	}
	for _, n := range []int{3, 5} {
		for branch := range n {
			d := disk(64)
			b := open(t, d, branch, n)
			if seen(b, 0, 100000) != newModel(branch, n).seen(0, 100000) {
				t.Errorf("a new branch: %s", seen(b, 0, 100000))
			}
			add(t, b, "x", 1)
			for m := 3; m <= 5; m += 2 {
				for other := range m {
					if other == branch && m == n {
						continue
					}
					if b, e := loft.Open(d, other, m); b != nil || e != api.ErrSpoilt {
						t.Errorf("Open(%d, %d) of %d, %d: %v, error %d", other, m, branch, n, b, e)
					}
				}
			}
			if b := open(t, d, branch, n); len(b.Records()) != 1 {
				t.Errorf("Open: %v", b.Records())
			}
			d.Stop(0)
			d.Flush()
			if b, e := loft.Open(d, (branch+1)%n, n); b != nil || e != api.ErrDown {
				t.Errorf("Open of a disk that is down: %v, error %d", b, e)
			}
		}
	}
}

// I7: a disk on which there is something, but no journal, is not emptied, unless it can be what was left of the beginning of one.
func TestI7Foreign(t *testing.T) {
	for sector, want := range map[int]errno{0: api.OK, 1: api.ErrSpoilt, 63: api.ErrSpoilt} {
		d := disk(64)
		d.Write(sector, []byte("loft"))
		d.Flush()
		if b, e := loft.Open(d, 0, 3); e != want || (b == nil) != (e != api.OK) {
			t.Errorf("Open of a disk with something in the sector %d: %v, error %d", sector, b, e)
		}
		if x, _ := d.Read(sector); want != api.OK && string(x[:4]) != "loft" {
			t.Errorf("the sector %d is %q now", sector, x)
		}
	}
}

// I7: whatever else is on a disk, Open says that it is spoilt, or that nothing is there.
func TestI7Spoilt(t *testing.T) {
	r := newPlay(t, 77, 3, 64).r
	counts := map[errno]int{}
	for range 2000 {
		d := disk(64)
		b := open(t, d, 0, 3)
		add(t, b, "new 5 1", 1)
		lend(t, b, 8, 9, 1)
		b.Free(8, 2)
		for range 1 + r.IntN(3) {
			sector := r.IntN(9)
			bytes, _ := d.Read(sector)
			switch r.IntN(4) {
			case 0:
				bytes = nil
			case 1:
				bytes[r.IntN(64)] = byte(r.IntN(256))
			case 2:
				bytes[r.IntN(12)] = "0123456789 x"[r.IntN(12)]
			case 3:
				bytes, _ = d.Read(r.IntN(9))
			}
			d.Write(sector, bytes)
		}
		d.Flush()
		b, e := loft.Open(d, 0, 3)
		if e != api.OK && e != api.ErrSpoilt || (b == nil) != (e != api.OK) {
			t.Fatalf("Open: %v, error %d", b, e)
		}
		counts[e]++
	}
	if counts[api.OK] < 200 || counts[api.ErrSpoilt] < 200 {
		t.Errorf("Open: %v", counts)
	}
}

// I8: errors of Add, in their order.
func TestI8Wrong(t *testing.T) {
	type call struct {
		text                    string
		day                     int
		many, isDown, isFull, x bool
	}
	faults[call]{
		{api.ErrArg, func(c *call) { c.day = []int{-1, 100001}[len(c.text)%2] }},
		{api.ErrArg, func(c *call) { c.text += "\n" }},
		{api.ErrTime, func(c *call) { c.day = 4 }},
		{api.ErrLimit, func(c *call) { c.many = true }},
		{api.ErrLent, func(c *call) { c.text = "do 9 fit 7" }},
		{api.ErrArg, func(c *call) { c.text = "do 8 fit 7" }},
		{api.ErrDown, func(c *call) { c.isDown = true }},
		{api.ErrFull, func(c *call) { c.isFull = true }},
	}.each(func(c call, want errno) {
		if c.text == "" {
			c.text = "do 8 cut 1"
		}
		if c.day == 0 {
			c.day = 6
		}
		d := disk(700)
		b := open(t, d, 0, 3)
		add(t, b, "new 100 "+slab, 5)
		lend(t, b, 8, 30, 5)
		last := 1
		for c.many && last < 400 {
			last = add(t, b, "x", 5)
		}
		if c.isFull {
			fill(t, b, 5)
		}
		if c.isDown {
			down(d)
		}
		before := seen(b, 5, 6)
		i, e := b.Add(c.text, c.day)
		if e != want || e == api.OK && i != last+1 || e != api.OK && (i != 0 || seen(b, 5, 6) != before) {
			t.Fatalf("Add(%q, %d), %v: %d, error %d, want %d", c.text, c.day, c, i, e, want)
		}
	})
}

// I8: texts and days that are at the ends of their ranges, and what a loan allows.
func TestI8Add(t *testing.T) {
	d := disk(4000)
	b := open(t, d, 0, 3)
	for text, want := range map[string]errno{"": api.ErrArg, strings.Repeat("a", 241): api.ErrArg, "\x1f": api.ErrArg, "\x7f": api.ErrArg, "\xff": api.ErrArg, strings.Repeat("a", 240): api.OK, " ~": api.OK} {
		if _, e := b.Add(text, 0); e != want {
			t.Errorf("Add(%q, 0): error %d, want %d", text, e, want)
		}
	}
	number := add(t, b, "new 7 "+slab, 3)
	pattern := loft.IdOf(0, number)
	lend(t, b, pattern, 6, 4)
	// A text without a form is written, whatever it speaks of.
	add(t, b, fmt.Sprintf("keep %d", pattern+8), 3)
	for day, want := range map[int]errno{3: api.ErrLent, 7: api.ErrLent} {
		if _, e := b.Add(fmt.Sprintf("keep %d 1", pattern), day); e != want {
			t.Errorf("Add on the day %d: error %d, want %d", day, e, want)
		}
	}
	for range 8 {
		add(t, b, fmt.Sprintf("keep %d 1", pattern), 4)
	}
	if _, e := b.Add(fmt.Sprintf("keep %d 1", pattern), 6); e != api.ErrLimit {
		t.Errorf("Add of a ninth piece: error %d", e)
	}
	// A pattern that is on loan, and nobody has told of yet.
	lend(t, b, 777, 6, 4)
	if _, e := b.Add("do 777 cut 1", 5); e != api.ErrNone {
		t.Errorf("Add for a pattern that is not there: error %d", e)
	}
	// A record of another branch, of a later day, is told behind this one.
	hear(t, b, 1, fmt.Sprintf("post 1\n1 1 6 do %d cut 1\n", pattern), 6)
	add(t, b, fmt.Sprintf("do %d cut 1", pattern), 5)
	_, ends, _ := loft.Told(3, b.Records())
	if ends[len(ends)-1] != api.ErrCut {
		t.Errorf("Told: %v", ends)
	}
	add(t, b, "last", 100000)
	if _, e := b.Add("later", 100001); e != api.ErrArg {
		t.Errorf("Add: error %d", e)
	}
}

// I8: what is sealed.
func TestI8Sealed(t *testing.T) {
	b := open(t, disk(400), 1, 5)
	check := func(want ...int) {
		t.Helper()
		if have := b.Sealed(); have != numbered(want...) {
			t.Errorf("Sealed: %v, want %v", have, want)
		}
	}
	add(t, b, "a", 1)
	add(t, b, "b", 1)
	check()
	hear(t, b, 0, "have 4 1 0 0 7\n", 1)
	check()
	hear(t, b, 2, "have 9 2 0 0 5\n", 1)
	check(0, 1)
	// Also what it has not itself: three others have it.
	hear(t, b, 3, "give 3 1 9 1 3 0 0 0 9\n", 1)
	check(3, 1, 0, 0, 5)
	// The greatest number that each one has told counts.
	hear(t, b, 3, "have 0 0 0 0 0\n", 1)
	check(3, 1, 0, 0, 5)
	hear(t, b, 3, "have 3 2 0 0 9\n", 1)
	check(3, 2, 0, 0, 5)
	hear(t, b, 4, "have 400 400 400 400 400\n", 1)
	check(4, 2, 0, 0, 7)
	if _, e := b.Hear(2, "give 3 1 9 1 9 9 9 9 9\n", 1); e != api.ErrState {
		t.Errorf("Hear: error %d", e)
	}
	check(4, 2, 0, 0, 7)
}

// I9: errors of Want, in their order.
func TestI9WrongWant(t *testing.T) {
	type call struct {
		pattern, until, day  int
		many, isDown, isFull bool
	}
	for bad := range 6 {
		faults[call]{
			{api.ErrArg, func(c *call) { c.day = []int{-1, 100001}[bad%2] - 6 }},
			{api.ErrArg, func(c *call) {
				switch bad {
				case 0:
					c.until = -1
				case 1:
					c.until = 31
				case 2:
					c.until = 1 << 62
				case 3:
					c.pattern = 0 - 8
				case 4:
					c.pattern = 1000001 - 8
				case 5:
					c.pattern = -1 << 62
				}
			}},
			{api.ErrLent, func(c *call) { c.pattern = 1 }},
			{api.ErrLimit, func(c *call) { c.many = true }},
			{api.ErrDown, func(c *call) { c.isDown = true }},
			{api.ErrFull, func(c *call) { c.isFull = true }},
		}.each(func(c call, want errno) {
			d := disk(700)
			b := open(t, d, 0, 3)
			hear(t, b, 2, "ask 2 1 9 6\n", 5)
			number := 1
			for ; c.many && number < 301; number++ {
				if _, e := b.Want(8, 20, 5); e != api.OK {
					t.Fatalf("Want: error %d", e)
				}
			}
			if c.isFull {
				fill(t, b, 5)
			}
			if c.isDown {
				down(d)
			}
			before := seen(b, 5, 6)
			i, e := b.Want(8+c.pattern, 6+c.day+c.until, 6+c.day)
			if e != want || e == api.OK && i != number || e != api.OK && (i != 0 || seen(b, 5, 6) != before) {
				t.Fatalf("Want, %v: %d, error %d, want %d", c, i, e, want)
			}
		})
	}
}

// I9: the ranges of Want, and own promises.
func TestI9Want(t *testing.T) {
	b := open(t, disk(4000), 0, 3)
	for _, c := range []struct {
		pattern, until, day int
		want                errno
	}{
		{1, 30, 0, api.OK}, {1, 31, 0, api.ErrArg}, {1000000, 0, 0, api.OK}, {1000001, 0, 0, api.ErrArg}, {0, 0, 0, api.ErrArg}, {2, 4, 5, api.ErrArg},
		{2, 100000, 99970, api.OK}, {2, 100000, 99969, api.ErrArg}, {2, 100000, 100000, api.OK}, {2, 100001, 99999, api.ErrArg}, {2, 100001, 100000, api.ErrArg},
	} {
		if _, e := b.Want(c.pattern, c.until, c.day); e != c.want {
			t.Errorf("Want(%d, %d, %d): error %d, want %d", c.pattern, c.until, c.day, e, c.want)
		}
	}
	check := func(day int, want ...api.Promise) {
		t.Helper()
		if l := b.Promises(day); !slices.Equal(l, want) {
			t.Errorf("Promises(%d): %v, want %v", day, l, want)
		}
	}
	b = open(t, disk(4000), 0, 3)
	want(t, b, 8, 20, 10)
	want(t, b, 8, 15, 10)
	// The own promise still lasts as long as before: somebody may have been told so.
	check(20, api.Promise{Pattern: 8, Number: 2, Until: 20})
	want(t, b, 8, 25, 21)
	check(25, api.Promise{Pattern: 8, Number: 3, Until: 25})
	// One that is not in force any more does not.
	want(t, b, 8, 40, 30)
	want(t, b, 8, 43, 43)
	check(43, api.Promise{Pattern: 8, Number: 5, Until: 43})
	hear(t, b, 2, "ask 2 7 3 12\n", 10)
	check(11, api.Promise{Pattern: 3, To: 2, Number: 7, Until: 12}, api.Promise{Pattern: 8, Number: 5, Until: 43})
	if _, e := b.Want(3, 12, 12); e != api.ErrLent {
		t.Errorf("Want on the last day of a promise: error %d", e)
	}
	want(t, b, 3, 13, 13)
	check(13, api.Promise{Pattern: 3, Number: 6, Until: 13}, api.Promise{Pattern: 8, Number: 5, Until: 43})
	if l := b.Promises(-1); len(l) > 0 || len(b.Promises(100001)) > 0 || len(b.Loans(-1)) > 0 || len(b.Letters(-1)) > 0 || len(b.Letters(100001)) > 0 {
		t.Errorf("Promises(-1): %v", l)
	}
}

// I9: errors of Free, in their order.
func TestI9WrongFree(t *testing.T) {
	type call struct {
		pattern, day   int
		isDown, isFull bool
	}
	for _, isLoan := range []bool{true, false} {
		faults[call]{
			{api.ErrArg, func(c *call) { c.day = 100001 - 6 }},
			{api.ErrNone, func(c *call) { c.pattern = 1 }},
			{api.ErrDown, func(c *call) { c.isDown = true }},
			{api.ErrFull, func(c *call) { c.isFull = true }},
		}.each(func(c call, e errno) {
			d := disk(100)
			b := open(t, d, 0, 3)
			if isLoan {
				lend(t, b, 8, 20, 5)
			} else {
				want(t, b, 8, 20, 5)
			}
			if c.isFull {
				fill(t, b, 5)
			}
			if c.isDown {
				down(d)
			}
			before := seen(b, 5, 6)
			if f := b.Free(8+c.pattern, 6+c.day); f != e || (seen(b, 5, 6) != before) != (e == api.OK) {
				t.Fatalf("Free, %v: error %d, want %d", c, f, e)
			}
		})
	}
}

// I9, I11: to let a pattern go shortens all loans of it, and the own promise, and is told until the last request has ended.
func TestI9Free(t *testing.T) {
	d := disk(4000)
	b := open(t, d, 0, 3)
	letters := func(day int, want ...string) {
		t.Helper()
		if l := b.Letters(day); !slices.Equal(l, append([]string{"have 0 0 0\n"}, want...)) {
			t.Errorf("Letters(%d): %q, want %q", day, l, want)
		}
	}
	lend(t, b, 8, 20, 5)
	lend(t, b, 7, 20, 5)
	lend(t, b, 8, 12, 6)
	want(t, b, 8, 15, 7)
	want(t, b, 9, 8, 7)
	letters(7, "ask 0 4 8 15\n", "ask 0 5 9 8\n")
	letters(9, "ask 0 4 8 15\n")
	if l := b.Loans(8); !slices.Equal(l, []api.Loan{{Pattern: 7, From: 5, Until: 20, Number: 2}, {Pattern: 8, From: 5, Until: 20, Number: 1}, {Pattern: 8, From: 6, Until: 12, Number: 3}}) {
		t.Errorf("Loans: %v", l)
	}
	for pattern := range []int{1, 6, 9} {
		if e := b.Free(pattern, 9); e != api.ErrNone {
			t.Errorf("Free(%d): error %d", pattern, e)
		}
	}
	if e := b.Free(8, 10); e != api.OK {
		t.Fatalf("Free: error %d", e)
	}
	if l := b.Loans(10); !slices.Equal(l, []api.Loan{{Pattern: 7, From: 5, Until: 20, Number: 2}, {Pattern: 8, From: 5, Until: 10, Number: 1}, {Pattern: 8, From: 6, Until: 10, Number: 3}}) {
		t.Errorf("Loans: %v", l)
	}
	if l := b.Promises(10); !slices.Equal(l, []api.Promise{{Pattern: 7, Number: 2, Until: 20}, {Pattern: 8, Number: 4, Until: 10}}) || len(b.Promises(11)) != 1 {
		t.Errorf("Promises: %v", l)
	}
	letters(10, "free 0 4 8\n")
	b.Free(7, 10)
	letters(15, "free 0 2 7\n", "free 0 4 8\n")
	letters(16, "free 0 2 7\n")
	letters(21)
	// An open request whose Until has gone by is open still.
	if e := b.Free(9, 10); e != api.OK {
		t.Errorf("Free: error %d", e)
	}
	letters(8, "free 0 2 7\n", "free 0 4 8\n", "free 0 5 9\n")
	want(t, b, 7, 19, 11)
	letters(12, "ask 0 6 7 19\n", "free 0 4 8\n")
	if e := b.Free(9, 11); e != api.ErrNone {
		t.Errorf("Free again: error %d", e)
	}
}

// I9: to let a pattern go on an earlier day than before shortens what is in force on that day.
func TestI9FreeEarlier(t *testing.T) {
	b := open(t, disk(400), 0, 3)
	lend(t, b, 7, 20, 4)
	lend(t, b, 8, 5, 4)
	lend(t, b, 8, 20, 6)
	check := func(day int, want ...api.Loan) {
		t.Helper()
		if e := b.Free(8, day); e != api.OK {
			t.Fatalf("Free: error %d", e)
		}
		if p := b.Promises(4); !slices.Equal(p, []api.Promise{{Pattern: 7, Number: 1, Until: 20}, {Pattern: 8, Number: 3, Until: day}}) {
			t.Errorf("Promises behind the day %d: %v", day, p)
		}
		var l []api.Loan
		for _, day := range []int{5, 6} {
			l = append(l, b.Loans(day)[1:]...)
		}
		if !slices.Equal(l, want) {
			t.Errorf("Loans behind the day %d: %v, want %v", day, l, want)
		}
	}
	first := api.Loan{Pattern: 8, From: 4, Until: 5, Number: 2}
	check(8, first, api.Loan{Pattern: 8, From: 6, Until: 8, Number: 3})
	check(7, first, api.Loan{Pattern: 8, From: 6, Until: 7, Number: 3})
	// The first loan ends on that day anyway, the second one begins behind it: it is the promise that becomes shorter.
	check(5, first, api.Loan{Pattern: 8, From: 6, Until: 7, Number: 3})
	// Now also the first loan becomes shorter.
	check(4, api.Loan{Pattern: 8, From: 6, Until: 7, Number: 3})
}

// I9: to let a pattern go again on the same day changes nothing, and needs no room, but a disk that is up.
func TestI9FreeAgain(t *testing.T) {
	d := disk(100)
	b := open(t, d, 0, 3)
	lend(t, b, 7, 20, 5)
	lend(t, b, 8, 20, 5)
	for range 500 {
		if e := b.Free(8, 6); e != api.OK {
			t.Fatalf("Free: error %d", e)
		}
	}
	if e := b.Free(8, 7); e != api.ErrNone {
		t.Errorf("Free on the next day: error %d", e)
	}
	down(d)
	if e := b.Free(8, 6); e != api.ErrDown {
		t.Errorf("Free with a disk that is down: error %d", e)
	}
}

// I12: which texts are messages.
func TestI12Forms(t *testing.T) {
	line := "0 1 1 a\n"
	for text, want := range map[string]errno{
		"": api.ErrForm, "\n": api.ErrForm, "have 0 0 0": api.ErrForm, "have 0 0 0\n": api.OK, "have 0 0 0\n\n": api.ErrForm, "have 0 0\n": api.ErrForm, "have 0 0 0 0\n": api.ErrForm, "have 0 0 400\n": api.OK, "have 0 0 401\n": api.ErrForm, "have -1 0 0\n": api.ErrForm, "have 00 0 0\n": api.ErrForm, "have  0 0 0\n": api.ErrForm, "have 0 0 0 \n": api.ErrForm, "have 0 0 \n": api.ErrForm, " have 0 0 0\n": api.ErrForm, "have\n": api.ErrForm, "have 0 0 0\r\n": api.ErrForm, "haves 0 0 0\n": api.ErrForm, "have\t0 0 0\n": api.ErrForm,
		"post 1\n" + line: api.OK, "post 1\n0 1 1 a": api.ErrForm, "post 0\n": api.ErrForm, "post 1\n": api.ErrForm, "post 2\n" + line: api.ErrForm, "post 1\n" + line + line: api.ErrForm, "post 2\n" + line + line: api.ErrForm, "post 01\n" + line: api.ErrForm, "post 1 \n" + line: api.ErrForm, "post 1\n\n" + line: api.ErrForm, "post 1\n" + line + "\n": api.ErrForm, "post\n" + line: api.ErrForm,
		"post 2\n1 1 1 a\n0 1 1 a\n": api.ErrForm, "post 2\n0 2 1 a\n0 1 1 a\n": api.ErrForm, "post 2\n0 1 1 a\n0 3 1 a\n": api.OK, "post 2\n0 2 1 a\n2 1 1 a\n": api.OK, "post 1\n3 1 1 a\n": api.ErrForm, "post 1\n0 0 1 a\n": api.ErrForm, "post 1\n0 401 1 a\n": api.ErrForm, "post 1\n0 1 100001 a\n": api.ErrForm, "post 1\n0 1 1 \n": api.ErrForm, "post 1\n0 1 1  \n": api.OK, "post 1\n0 1 1\n": api.ErrForm,
		"post 10\n" + many(10): api.OK, "post 11\n" + many(11): api.ErrForm,
		"ask 0 1 1 0\n": api.OK, "ask 0 300 1000000 100000\n": api.OK, "ask 0 0 1 0\n": api.ErrForm, "ask 0 301 1 0\n": api.ErrForm, "ask 0 1 0 0\n": api.ErrForm, "ask 0 1 1000001 0\n": api.ErrForm, "ask 0 1 1 100001\n": api.ErrForm, "ask 3 1 1 0\n": api.ErrForm, "ask -1 1 1 0\n": api.ErrForm, "ask 0 1 1\n": api.ErrForm, "ask 0 1 1 0 0\n": api.ErrForm, "ask 0 1 1 -1\n": api.ErrForm, "ask 0 1 1 0": api.ErrForm,
		"give 0 1 1 0 0 0 0\n": api.OK, "give 0 1 300 100000 400 400 400\n": api.OK, "give 0 1 301 0 0 0 0\n": api.ErrForm, "give 0 1 0 0 0 0 0\n": api.ErrForm, "give 3 1 1 0 0 0 0\n": api.ErrForm, "give 0 3 1 0 0 0 0\n": api.ErrForm, "give 0 1 1 100001 0 0 0\n": api.ErrForm, "give 0 1 1 0 0 0 401\n": api.ErrForm, "give 0 1 1 0 0 0\n": api.ErrForm, "give 0 1 1 0 0 0 0 0\n": api.ErrForm,
		"free 0 1 1\n": api.OK, "free 0 300 1000000\n": api.OK, "free 0 301 1\n": api.ErrForm, "free 0 0 1\n": api.ErrForm, "free 0 1 0\n": api.ErrForm, "free 0 1 1000001\n": api.ErrForm, "free 3 1 1\n": api.ErrForm, "free 0 1\n": api.ErrForm, "free 0 1 1 1\n": api.ErrForm, "free 0 1 1\x00\n": api.ErrForm,
		"want 0 1 1\n": api.ErrForm, "hello\n": api.ErrForm,
		"ask 1 1 1 0\n": api.ErrState, "ask 2 1 1 0\n": api.ErrState, "give 0 2 1 0 0 0 0\n": api.ErrState, "give 0 0 1 0 0 0 0\n": api.ErrState, "give 2 1 1 0 0 0 0\n": api.ErrState, "give 1 0 1 0 0 0 0\n": api.ErrState, "free 1 1 1\n": api.ErrState, "free 2 1 1\n": api.ErrState, "post 1\n1 1 1 a\n": api.ErrState, "post 1\n1 9 1 a\n": api.ErrState,
	} {
		b := open(t, disk(400), 1, 3)
		answer, e := b.Hear(0, text, 5)
		if e != want || e != api.OK && answer != "" {
			t.Errorf("Hear(%q): %q, error %d, want %d", text, answer, e, want)
		}
		if e != api.OK && seen(b, 0, 5) != newModel(1, 3).seen(0, 5) {
			t.Errorf("Hear(%q): %s", text, seen(b, 0, 5))
		}
	}
	if _, e := open(t, disk(400), 1, 5).Hear(4, "give 4 1 1 0 1 2 3 4 5\n", 5); e != api.OK {
		t.Errorf("Hear of one of five: error %d", e)
	}
}

// many returns lines of records of the branch 0.
func many(n int) string {
	text := ""
	for i := range n {
		text += fmt.Sprintf("0 %d 1 %d\n", i+1, i)
	}
	return text
}

// I12: errors of Hear, in their order.
func TestI12Wrong(t *testing.T) {
	type call struct {
		from, day, form, state int
		isDown, isFull         bool
	}
	for bad := range 4 {
		faults[call]{
			{api.ErrArg, func(c *call) {
				c.day = []int{-1, 100001, 6, 6}[bad] - 6
				c.from = []int{0, 0, 3, -1}[bad] - 1
			}},
			{api.ErrForm, func(c *call) { c.form = 1 }},
			{api.ErrState, func(c *call) { c.state = 1 }},
			{api.ErrDown, func(c *call) { c.isDown = true }},
			{api.ErrFull, func(c *call) { c.isFull = true }},
		}.each(func(c call, want errno) {
			d := disk(64)
			b := open(t, d, 0, 3)
			if c.isFull {
				fill(t, b, 6)
			}
			if c.isDown {
				down(d)
			}
			before := seen(b, 6, 7)
			text := fmt.Sprintf("ask %d 1 8 9\n", 1+c.state) + "\n"[:c.form]
			answer, e := b.Hear(1+c.from, text, 6+c.day)
			if e != want || e == api.OK && answer != "give 0 1 1 6 0 0 0\n" || e != api.OK && (answer != "" || seen(b, 6, 7) != before) {
				t.Fatalf("Hear(%q), %v: %q, error %d, want %d", text, c, answer, e, want)
			}
		})
	}
	b := open(t, disk(64), 2, 3)
	for _, from := range []int{-1, 2, 3, 1 << 40} {
		if answer, e := b.Hear(from, "", 5); answer != "" || e != api.ErrArg {
			t.Errorf("Hear(%d): %q, error %d", from, answer, e)
		}
	}
}

// I12: a message that changes nothing durable does not use the disk.
func TestI12Quiet(t *testing.T) {
	d := disk(64)
	b := open(t, d, 0, 3)
	add(t, b, "a", 1)
	hear(t, b, 1, "ask 1 1 8 9\n", 1)
	hear(t, b, 1, "ask 1 1 7 5\n", 1)
	hear(t, b, 1, "post 1\n1 1 1 a\n", 1)
	fill(t, b, 5)
	for range 2 {
		for text, want := range map[string]string{
			"have 0 0 0\n": "post 2\n0 1 1 a\n1 1 1 a\n", "have 1 1 0\n": "", "have 1 1 1\n": "have 1 1 0\n", "have 0 1 1\n": "post 1\n0 1 1 a\n",
			"ask 1 1 8 9\n": "give 0 1 1 5 1 1 0\n", "ask 1 1 8 7\n": "give 0 1 1 5 1 1 0\n", "ask 1 1 9 4\n": "", "post 1\n1 1 1 a\n": "", "post 1\n1 3 1 a\n": "", "post 2\n0 1 1 a\n1 9 1 a\n": "",
			"give 1 0 1 5 0 0 0\n": "", "free 1 1 7\n": "", "free 1 1 6\n": "",
		} {
			if answer, e := b.Hear(1, text, 5); answer != want || e != api.OK {
				t.Errorf("Hear(%q): %q, error %d, want %q", text, answer, e, want)
			}
		}
		// What is heard is heard also then.
		if have := b.Sealed(); have.Have[0] != 1 {
			t.Errorf("Sealed: %v", have)
		}
		down(d)
	}
}

// I12: greetings are answered by the first ten records that are lacking.
func TestI12Greeting(t *testing.T) {
	b := open(t, disk(4000), 1, 3)
	for i := range 12 {
		add(t, b, fmt.Sprint("b", i), 1)
	}
	hear(t, b, 0, "post 2\n0 1 5 a0\n0 2 5 a1\n", 9)
	lines := []string{"0 2 5 a1\n"}
	for i := range 9 {
		lines = append(lines, fmt.Sprintf("1 %d 1 b%d\n", i+1, i))
	}
	for greeting, want := range map[string]string{
		"have 1 0 0\n": "post 10\n" + strings.Join(lines, ""), "have 400 11 1\n": "post 1\n1 12 1 b11\n", "have 2 12 0\n": "", "have 2 12 1\n": "have 2 12 0\n", "have 3 13 0\n": "have 2 12 0\n", "have 2 3 0\n": "post 9\n" + strings.Join(lines[4:], "") + "1 10 1 b9\n1 11 1 b10\n1 12 1 b11\n",
	} {
		if answer := hear(t, b, 2, greeting, 1); answer != want {
			t.Errorf("Hear(%q): %q, want %q", greeting, answer, want)
		}
	}
}

// I12, P9.10: the records of a letter are taken one after the other, all or none.
func TestI12Letter(t *testing.T) {
	b := open(t, disk(4000), 1, 3)
	add(t, b, "own", 4)
	hear(t, b, 0, "post 2\n0 1 5 a\n2 1 5 c\n", 9)
	check := func(text, want string, e errno, have ...int) {
		t.Helper()
		answer, f := b.Hear(2, text, 9)
		if answer != want || f != e || b.Have() != numbered(have...) {
			t.Errorf("Hear(%q): %q, error %d, then %v, want %q, error %d, %v", text, answer, f, b.Have(), want, e, have)
		}
	}
	check("post 1\n0 1 5 a\n", "", api.OK, 1, 1, 1)
	check("post 3\n0 1 5 a\n1 1 4 own\n2 1 5 c\n", "", api.OK, 1, 1, 1)
	check("post 1\n0 1 6 a\n", "", api.ErrState, 1, 1, 1)
	check("post 1\n0 1 5 b\n", "", api.ErrState, 1, 1, 1)
	check("post 1\n1 1 4 other\n", "", api.ErrState, 1, 1, 1)
	check("post 1\n1 2 4 own\n", "", api.ErrState, 1, 1, 1)
	check("post 1\n1 3 4 own\n", "", api.ErrState, 1, 1, 1)
	check("post 1\n0 3 1 a\n", "", api.OK, 1, 1, 1)
	check("post 1\n0 2 4 a\n", "", api.ErrState, 1, 1, 1)
	check("post 2\n0 2 5 a\n0 3 4 a\n", "", api.ErrState, 1, 1, 1)
	check("post 2\n0 2 5 a\n2 1 6 c\n", "", api.ErrState, 1, 1, 1)
	check("post 4\n0 1 5 a\n0 3 1 x\n2 2 5 d\n2 3 100000 e\n", "have 1 1 3\n", api.OK, 1, 1, 3)
	check("post 4\n0 1 5 a\n0 3 1 x\n2 2 5 d\n2 3 100000 e\n", "", api.OK, 1, 1, 3)
	check("post 3\n0 2 5 f\n0 3 5 g\n0 5 5 h\n", "have 3 1 3\n", api.OK, 3, 1, 3)
	check("post 2\n0 3 5 g\n0 4 5 h\n", "have 4 1 3\n", api.OK, 4, 1, 3)
}

// I12: who gets a promise, and until when.
func TestI12Asking(t *testing.T) {
	b := open(t, disk(4000), 0, 3)
	ask := func(from, number, until, day int, given bool, want ...api.Promise) {
		t.Helper()
		answer := hear(t, b, from, fmt.Sprintf("ask %d %d 8 %d\n", from, number, until), day)
		give := fmt.Sprintf("give 0 %d %d %d 0 0 0\n", from, number, day)
		if l := b.Promises(0); !slices.Equal(l, want) || given != (answer == give) || !given && answer != "" {
			t.Errorf("ask %d %d 8 %d on the day %d: %q, %v", from, number, until, day, answer, l)
		}
	}
	promise := func(to, number, until int) api.Promise {
		return api.Promise{Pattern: 8, To: to, Number: number, Until: until}
	}
	ask(1, 3, 9, 10, false)
	ask(1, 3, 10, 10, true, promise(1, 3, 10))
	ask(1, 3, 15, 10, true, promise(1, 3, 15))
	ask(1, 3, 12, 10, true, promise(1, 3, 15))
	ask(1, 2, 18, 10, false, promise(1, 3, 15))
	ask(1, 4, 11, 10, true, promise(1, 4, 15))
	ask(2, 9, 20, 15, false, promise(1, 4, 15))
	// A promise that is not in force any more does not last; but an earlier request is none.
	ask(1, 3, 20, 16, false, promise(1, 4, 15))
	ask(1, 4, 16, 16, true, promise(1, 4, 16))
	ask(2, 1, 20, 17, true, promise(2, 1, 20))
	ask(1, 9, 30, 20, false, promise(2, 1, 20))
	ask(1, 9, 30, 21, true, promise(1, 9, 30))
	free := func(from, number, day int, want ...api.Promise) {
		t.Helper()
		answer := hear(t, b, from, fmt.Sprintf("free %d %d 8\n", from, number), day)
		if l := b.Promises(0); !slices.Equal(l, want) || answer != "" {
			t.Errorf("free %d %d 8 on the day %d: %q, %v", from, number, day, answer, l)
		}
	}
	free(1, 8, 25, promise(1, 9, 30))
	free(2, 9, 25, promise(1, 9, 30))
	free(1, 9, 30, promise(1, 9, 30))
	free(1, 9, 26, promise(1, 9, 26))
	free(1, 9, 26, promise(1, 9, 26))
	free(1, 300, 0, promise(1, 9, 0))
	free(1, 300, 5, promise(1, 9, 0))
	if l := b.Promises(1); len(l) > 0 {
		t.Errorf("Promises: %v", l)
	}
	// The own promise stands against those of others.
	want(t, b, 5, 12, 10)
	if answer := hear(t, b, 2, "ask 2 1 5 20\n", 12); answer != "" {
		t.Errorf("ask: %q", answer)
	}
	if answer := hear(t, b, 2, "ask 2 1 5 20\n", 13); answer == "" {
		t.Errorf("ask: %q", answer)
	}
}

// I12: when a request is granted.
func TestI12Grants(t *testing.T) {
	b := open(t, disk(4000), 0, 5)
	give := func(from, number, given, day int, loans int, have string) {
		t.Helper()
		if answer := hear(t, b, from, fmt.Sprintf("give %d 0 %d %d %s\n", from, number, given, have), day); answer != "" || len(b.Loans(day)) != loans {
			t.Errorf("give %d 0 %d %d on the day %d: %q, %v", from, number, given, day, answer, b.Loans(day))
		}
	}
	want(t, b, 8, 9, 2)
	give(1, 1, 2, 2, 0, "0 0 0 0 0")
	give(1, 1, 2, 2, 0, "0 0 0 0 0")
	give(2, 1, 2, 3, 0, "0 0 0 0 0")
	give(2, 1, 4, 3, 0, "0 0 0 0 0")
	give(2, 1, 3, 3, 0, "0 0 0 0 0")
	// The one that gave on the day 2 does not count on the day 3.
	give(3, 2, 3, 3, 0, "0 0 0 0 0")
	give(3, 1, 3, 3, 1, "0 0 0 0 0")
	if l := b.Loans(3); !slices.Equal(l, []api.Loan{{Pattern: 8, From: 3, Until: 9, Number: 1}}) || len(b.Letters(3)) != 1 {
		t.Errorf("Loans: %v, Letters: %q", l, b.Letters(3))
	}
	give(4, 1, 3, 3, 1, "0 0 0 0 0")
	// All records must be there that were told, also beyond a majority: those of a later word take the place.
	want(t, b, 9, 9, 4)
	want(t, b, 7, 9, 4)
	give(1, 2, 4, 4, 1, "0 0 0 0 0")
	give(1, 3, 4, 4, 1, "0 1 0 0 0")
	give(2, 2, 4, 4, 1, "0 1 0 0 0")
	give(3, 2, 4, 4, 1, "1 0 0 0 0")
	give(2, 3, 4, 4, 1, "0 0 0 0 0")
	if answer := hear(t, b, 1, "post 1\n1 1 1 a\n", 4); answer != "have 0 1 0 0 0\n" || len(b.Loans(4)) != 2 {
		t.Errorf("post: %q, %v", answer, b.Loans(4))
	}
	add(t, b, "own", 4)
	if answer := hear(t, b, 4, "have 1 1 0 0 0\n", 4); answer != "" || len(b.Loans(4)) != 3 {
		t.Errorf("have: %q, %v", answer, b.Loans(4))
	}
	want(t, b, 6, 5, 5)
	give(1, 4, 5, 5, 3, "0 0 0 0 400")
	give(2, 4, 5, 5, 3, "0 0 0 0 0")
	give(1, 4, 5, 5, 4, "0 0 0 0 0")
	// A request is granted on its last day, and not behind it.
	want(t, b, 5, 6, 5)
	give(1, 5, 7, 7, 3, "0 0 0 0 0")
	give(2, 5, 7, 7, 3, "0 0 0 0 0")
	give(1, 5, 6, 6, 3, "0 0 0 0 0")
	give(2, 5, 6, 6, 4, "0 0 0 0 0")
	// One that is freed, or behind which there is a further one, is not granted.
	want(t, b, 4, 9, 8)
	give(1, 6, 8, 8, 3, "0 0 0 0 0")
	b.Free(4, 8)
	give(2, 6, 8, 8, 3, "0 0 0 0 0")
	want(t, b, 4, 9, 8)
	want(t, b, 4, 9, 8)
	give(1, 7, 8, 8, 3, "0 0 0 0 0")
	give(2, 7, 8, 8, 3, "0 0 0 0 0")
	give(1, 8, 8, 8, 3, "0 0 0 0 0")
	give(2, 8, 8, 8, 4, "0 0 0 0 0")
}
