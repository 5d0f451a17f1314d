package loft_test

import (
	"fmt"
	"slices"
	"strings"
	"testing"

	"strickle/api"
	"strickle/loft"
)

// long returns a text of so many bytes that begins like all others.
func long(end string, bytes int) string { return strings.Repeat("=", bytes-len(end)) + end }

// texts returns the texts of the own records of a branch.
func texts(b *loft.Branch) []string {
	var l []string
	for _, x := range b.Records() {
		l = append(l, x.Text)
	}
	return l
}

// calls returns how many calls of Write and Flush an operation needs.
func calls(t *testing.T, d *loft.Disk, do func()) int {
	t.Helper()
	const plenty = 1000
	d.Stop(plenty)
	do()
	for left := 0; ; left++ {
		if e := d.Flush(); e != api.OK {
			d.Crash(nil)
			return plenty - left
		}
	}
}

// P9.3: whenever the power fails, and however the writes are torn, an operation is there as a whole or not at all.
func TestP93Torn(t *testing.T) {
	first, second := "first", long("second", 200)
	d := disk(64)
	b := open(t, d, 0, 3)
	add(t, b, first, 1)
	n := calls(t, d, func() { add(t, b, second, 1) })
	if n < 3 {
		t.Fatalf("a record of 200 bytes needs %d calls only", n)
	}
	whole, none := 0, 0
	try := func(power int, keep []int) {
		t.Helper()
		d := disk(64)
		b := open(t, d, 0, 3)
		add(t, b, first, 1)
		d.Stop(power)
		if i, e := b.Add(second, 1); i != 0 || e != api.ErrDown || len(b.Records()) != 1 {
			t.Fatalf("Add with power for %d calls: %d, error %d, then %q", power, i, e, texts(b))
		}
		d.Crash(keep)
		b = open(t, d, 0, 3)
		switch l := texts(b); {
		case slices.Equal(l, []string{first}):
			none++
		case slices.Equal(l, []string{first, second}):
			whole++
		default:
			t.Fatalf("torn by %v: %q", keep, l)
		}
		// What was left by the crash does not disturb what is written then.
		want := append(texts(b), "third", second)
		add(t, b, "third", 2)
		add(t, b, second, 2)
		d.Crash(nil)
		if l := texts(open(t, d, 0, 3)); !slices.Equal(l, want) {
			t.Fatalf("torn by %v, then: %q, want %q", keep, l, want)
		}
	}
	for power := range n {
		try(power, nil)
		try(power, slices.Repeat([]int{64}, n))
		for i := range n {
			for kept := range 65 {
				keep := slices.Repeat([]int{64}, n)
				keep[i] = kept
				try(power, keep)
				keep = slices.Repeat([]int{0}, n)
				keep[i] = kept
				try(power, keep)
			}
		}
	}
	if whole < 10 || none < 1000 {
		t.Errorf("%d times as a whole, %d times not", whole, none)
	}
}

// P9.3: what a torn operation left does not become whole by the next one that is torn, also not by what empties it.
func TestP93TornTwice(t *testing.T) {
	// Both need as many sectors, of which some are equal.
	one, two := long("one", 150), long("two", 150)
	const writes = 4
	kept := func(some int) []int {
		var l []int
		for i := range writes {
			l = append(l, 64*(some>>i&1))
		}
		return l
	}
	for some := range 1 << writes {
		for more := range 1 << writes {
			for _, between := range []int{-1, 0, 1, 2, 3, 4, 5} {
				d := disk(64)
				b := open(t, d, 2, 5)
				d.Stop(writes - 1)
				if _, e := b.Add(one, 1); e != api.ErrDown {
					t.Fatalf("Add: error %d", e)
				}
				d.Crash(kept(some))
				if between >= 0 {
					d.Stop(between)
					loft.Open(d, 2, 5)
					d.Crash([]int{10 * (more & 1), 64 * (more >> 1 & 1), 30 * (more >> 2), 63})
				}
				b = open(t, d, 2, 5)
				before := texts(b)
				if l := slices.DeleteFunc(slices.Clone(before), func(s string) bool { return s == one }); len(l) > 0 || len(before) > 1 {
					t.Fatalf("torn by %v: %q", kept(some), before)
				}
				d.Stop(writes - 1)
				b.Add(two, 1)
				d.Crash(kept(more))
				b = open(t, d, 2, 5)
				if after := texts(b); !slices.Equal(after, before) && !slices.Equal(after, append(slices.Clone(before), two)) {
					t.Fatalf("torn by %v, then by %v: %q", kept(some), kept(more), after)
				}
			}
		}
	}
}

// P9.3: an Open that the power stops has no effect, and a disk is that of one branch behind it.
func TestP93Open(t *testing.T) {
	for power := range 6 {
		for kept := range 65 {
			d := disk(64)
			d.Stop(power)
			b, e := loft.Open(d, 1, 3)
			if (b != nil) != (e == api.OK) || d.Down() != (e != api.OK) || e != api.OK && e != api.ErrDown {
				t.Fatalf("Open with power for %d calls: %v, error %d", power, b, e)
			}
			d.Crash([]int{kept, kept})
			add(t, open(t, d, 1, 3), "x", 1)
			if l := texts(open(t, d, 1, 3)); !slices.Equal(l, []string{"x"}) {
				t.Fatalf("torn at %d: %q", kept, l)
			}
			if _, e := loft.Open(d, 2, 3); e != api.ErrSpoilt {
				t.Fatalf("torn at %d: error %d", kept, e)
			}
		}
	}
}

// I7: a crash makes forgotten what was heard, and what was given.
func TestI7Forgotten(t *testing.T) {
	d := disk(400)
	b := open(t, d, 0, 5)
	add(t, b, "a", 1)
	want(t, b, 8, 9, 1)
	for from := 1; from < 3; from++ {
		hear(t, b, from, fmt.Sprintf("have 1 0 0 0 %d\n", from), 1)
	}
	hear(t, b, 1, "give 1 0 1 1 1 0 0 0 0\n", 1)
	if have := b.Sealed(); have != numbered(1) {
		t.Errorf("Sealed: %v", have)
	}
	d.Crash(nil)
	b = open(t, d, 0, 5)
	if have := b.Sealed(); have != numbered() {
		t.Errorf("Sealed behind a crash: %v", have)
	}
	hear(t, b, 2, "give 2 0 1 1 0 0 0 0 0\n", 1)
	if l := b.Loans(1); len(l) > 0 {
		t.Errorf("Loans: %v", l)
	}
	hear(t, b, 1, "give 1 0 1 1 1 0 0 0 0\n", 1)
	if l := b.Loans(1); len(l) != 1 {
		t.Errorf("Loans: %v", l)
	}
	// The loan, and that it is not open any more, are durable.
	d.Crash(nil)
	b = open(t, d, 0, 5)
	if l := b.Loans(1); len(l) != 1 || len(b.Letters(1)) != 1 || b.Free(8, 2) != api.OK {
		t.Errorf("Loans: %v, Letters: %q", l, b.Letters(1))
	}
	d.Crash(nil)
	b = open(t, d, 0, 5)
	if l := b.Letters(3); len(l) != 2 || len(b.Loans(3)) > 0 || len(b.Promises(3)) > 0 {
		t.Errorf("Letters: %q", l)
	}
}

// used returns how many sectors of a disk are not empty.
func used(d *loft.Disk, sectors int) int {
	n := 0
	for i := range sectors {
		b, _ := d.Read(i)
		if slices.ContainsFunc(b, func(x byte) bool { return x != 0 }) {
			n++
		}
	}
	return n
}

// I7 to I12: operations have room while they have not cost more than half of the sectors.
func TestI7Room(t *testing.T) {
	// Each of them makes the operation with an index, and returns what it costs.
	kinds := map[string]func(b *loft.Branch, i int) (int, errno){
		"Add": func(b *loft.Branch, i int) (int, errno) {
			_, e := b.Add(long(fmt.Sprint(i), 240), 100000)
			return 9, e
		},
		"Want": func(b *loft.Branch, i int) (int, errno) {
			_, e := b.Want(1000000-i, 100000, 99970)
			return 9, e
		},
		"Free": func(b *loft.Branch, i int) (int, errno) {
			if i%2 == 0 {
				_, e := b.Want(1000000-i, 100000, 99970)
				return 9, e
			}
			return 9, b.Free(1000000-i+1, 99970)
		},
		"ask": func(b *loft.Branch, i int) (int, errno) {
			_, e := b.Hear(1, fmt.Sprintf("ask 1 300 %d 100000\n", 1000000-i), 99970)
			return 9, e
		},
		"free": func(b *loft.Branch, i int) (int, errno) {
			if i%2 == 0 {
				_, e := b.Hear(1, fmt.Sprintf("ask 1 300 %d 100000\n", 1000000-i), 99970)
				return 9, e
			}
			_, e := b.Hear(1, fmt.Sprintf("free 1 300 %d\n", 1000000-i+1), 99970)
			return 9, e
		},
		"give": func(b *loft.Branch, i int) (int, errno) {
			if i%2 == 0 {
				_, e := b.Want(1000000-i, 100000, 99970)
				return 9, e
			}
			_, e := b.Hear(1, fmt.Sprintf("give 1 0 %d 100000 0 0 0\n", i/2+1), 100000)
			return 9, e
		},
		"post 1": func(b *loft.Branch, i int) (int, errno) {
			_, e := b.Hear(1, letter(i+1, 1), 5)
			return 12, e
		},
		"post 10": func(b *loft.Branch, i int) (int, errno) {
			_, e := b.Hear(1, letter(10*i+1, 10), 5)
			return 84, e
		},
	}
	for _, sectors := range []int{64, 65, 66, 67, 90, 168, 180, 1000, 3600} {
		for name, do := range kinds {
			d := disk(sectors)
			b := open(t, d, 0, 3)
			for i, paid := 0, 0; ; i++ {
				cost, e := do(b, i)
				paid += cost
				if e == api.ErrLimit || e == api.ErrForm {
					break
				}
				if e == api.ErrFull && 2*paid > sectors {
					break
				}
				if e != api.OK {
					t.Fatalf("%s, %d of them on %d sectors: error %d", name, i, sectors, e)
				}
			}
			if again := open(t, d, 0, 3); seen(again, 99970, 100000) != seen(b, 99970, 100000) {
				t.Errorf("%s: opened: %s", name, seen(again, 100000))
			}
		}
	}
}

// letter returns a letter with long records of the branch 1.
func letter(number, n int) string {
	text := fmt.Sprintf("post %d\n", n)
	for i := range n {
		text += fmt.Sprintf("1 %d 100000 %s\n", number+i, long(fmt.Sprint(number+i), 240))
	}
	return text
}

// I12: 300 requests that are granted by one message need no more room than what it costs.
func TestI12AllGranted(t *testing.T) {
	for _, text := range []string{"have 0 0 0\n", letter(1, 1)} {
		const sectors = 6000
		d := disk(sectors)
		b := open(t, d, 0, 3)
		for i := range 300 {
			want(t, b, 1000000-i, 100000, 99970)
			hear(t, b, 1, fmt.Sprintf("give 1 0 %d 99971 1 0 0\n", i+1), 99971)
		}
		// The others have seen a record that comes to be there only now.
		add(t, b, "x", 99971)
		if l := b.Loans(99971); len(l) > 0 {
			t.Fatalf("Loans: %v", l)
		}
		before := used(d, sectors)
		cost := 9
		if text != "have 0 0 0\n" {
			cost = 4 + 8 + 9
		}
		hear(t, b, 1, text, 99971)
		l := b.Loans(99971)
		if len(l) != 300 || l[0] != (api.Loan{Pattern: 999701, From: 99971, Until: 100000, Number: 300}) {
			t.Errorf("%d loans", len(l))
		}
		if n := used(d, sectors) - before; n > 2*cost {
			t.Errorf("%d sectors for what costs %d", n, cost)
		}
		if again := open(t, d, 0, 3).Loans(99971); !slices.Equal(again, l) {
			t.Errorf("opened: %v", again)
		}
	}
}
