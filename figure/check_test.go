package figure_test

import (
	"fmt"
	"math/rand/v2"
	"slices"
	"strings"
	"testing"

	"strickle/api"
	"strickle/figure"
)

// numbers returns the Numbers of a term.
func numbers(l ...int) [6]int {
	var n [6]int
	copy(n[:], l)
	return n
}

// blocks returns a drawing of so many blocks.
func blocks(n int) []api.Term {
	var l []api.Term
	for i := range n {
		l = append(l, api.Term{Name: fmt.Sprint("b", i), Kind: api.TermBlock, Numbers: numbers(0, 0, 0, 1, 1, 1)})
	}
	return l
}

// behind returns a drawing of a block, and of a term behind so many blocks.
func behind(n int, t api.Term) []api.Term { return append(blocks(n), t) }

// wrong checks that Check refuses a term, and with it all that read a drawing, with the other results zero.
func wrong(t *testing.T, l []api.Term, index int, want api.Errno) {
	t.Helper()
	if i, e := figure.Check(l); i != index || e != want {
		t.Errorf("Check(%v): %d, error %d, want %d, %d", l, i, e, index, want)
	}
	if values, i, e := figure.Values(l); len(values) != 0 || i != index || e != want {
		t.Errorf("Values(%v): %v, %d, error %d, want %d, %d", l, values, i, e, index, want)
	}
	if s, i, e := figure.Compile(l); s != (api.Solid{}) || i != index || e != want {
		t.Errorf("Compile(%v): %v, %d, error %d, want %d, %d", l, s, i, e, index, want)
	}
	for _, i := range []int{0, -1, len(l)} {
		if u, e := figure.Uses(l, i); len(u) != 0 || e != want {
			t.Errorf("Uses(%v, %d): %v, error %d, want %d", l, i, u, e, want)
		}
	}
	if lean, e := figure.Lean(l); len(lean) != 0 || e != want {
		t.Errorf("Lean(%v): %v, error %d, want %d", l, lean, e, want)
	}
	if s := figure.Print(l); s != "" {
		t.Errorf("Print(%v): %q", l, s)
	}
}

// right checks that Check accepts a drawing.
func right(t *testing.T, l []api.Term) {
	t.Helper()
	if i, e := figure.Check(l); i != 0 || e != api.OK {
		t.Errorf("Check(%v): %d, error %d", l, i, e)
	}
}

func TestF1Check(t *testing.T) {
	for _, l := range [][]api.Term{nil, {}, blocks(1), blocks(39), blocks(40), parsed(t, ringText)} {
		right(t, l)
	}
	for _, name := range []string{"a", "z", "a0", "a9", "a-", "a--9z", "block", strings.Repeat("q", 24)} {
		l := blocks(1)
		l[0].Name = name
		right(t, l)
	}
	for _, x := range []api.Term{
		{Kind: api.TermBlock, Numbers: numbers(0, 0, 0, 8, 8, 8)}, {Kind: api.TermBlock, Numbers: numbers(7, 7, 7, 1, 1, 1)}, {Kind: api.TermBlock, Numbers: numbers(5, 0, 7, 3, 8, 1)},
		{Kind: api.TermJoin, A: 2, B: 1}, {Kind: api.TermLess, A: 2, B: 2}, {Kind: api.TermMeet},
		{Kind: api.TermMove, A: 2, Numbers: numbers(-7, -7, -7)}, {Kind: api.TermMove, Numbers: numbers(7, 7, 7)},
		{Kind: api.TermTurn, A: 1}, {Kind: api.TermTurn, A: 2, Numbers: numbers(23)},
		{Kind: api.TermRow, A: 1, Numbers: numbers(2, -7, -7, -7)}, {Kind: api.TermRow, A: 2, Numbers: numbers(8, 7, 7, 7)},
		{Kind: api.TermMirror, A: 2}, {Kind: api.TermMirror, A: 2, Numbers: numbers(2)},
		{Kind: api.TermSpun, Word: "8(a)"}, {Kind: api.TermSpun, Word: "o", Numbers: numbers(7)}, {Kind: api.TermSpun, Word: "<ab>", Numbers: numbers(4)},
	} {
		x.Name = "x"
		right(t, behind(3, x))
	}
}

func TestF1CheckWrong(t *testing.T) {
	for _, name := range []string{"", "A", "aB", "0", "9a", "-", "-a", "a b", "a ", " a", "a_", "a=", "a.", "a/", "a:", "a`", "a{", "`", "{", "a\n", "a\x00", "é", "aé", "\xff", "#", strings.Repeat("a", 25), strings.Repeat("a", 10000)} {
		l := blocks(2)
		l[1].Name = name
		wrong(t, l, 1, api.ErrArg)
	}
	for _, kind := range []uint8{0, 10, 11, 128, 255} {
		wrong(t, behind(2, api.Term{Name: "x", Kind: kind}), 2, api.ErrArg)
		wrong(t, behind(2, api.Term{Name: "x", Kind: kind, Numbers: numbers(0, 0, 0, 1, 1, 1)}), 2, api.ErrArg)
	}
	for _, x := range []api.Term{
		{Kind: api.TermBlock}, {Kind: api.TermBlock, Numbers: numbers(0, 0, 0, 9, 1, 1)}, {Kind: api.TermBlock, Numbers: numbers(8, 0, 0, 1, 1, 1)}, {Kind: api.TermBlock, Numbers: numbers(8, 0, 0, 0, 1, 1)},
		{Kind: api.TermBlock, Numbers: numbers(4, 0, 0, 5, 1, 1)}, {Kind: api.TermBlock, Numbers: numbers(0, 4, 0, 1, 5, 1)}, {Kind: api.TermBlock, Numbers: numbers(0, 0, 4, 1, 1, 5)},
		{Kind: api.TermBlock, Numbers: numbers(-1, 0, 0, 2, 1, 1)}, {Kind: api.TermBlock, Numbers: numbers(0, -1, 0, 1, 2, 1)}, {Kind: api.TermBlock, Numbers: numbers(0, 0, -1, 1, 1, 2)},
		{Kind: api.TermBlock, Numbers: numbers(0, 0, 0, 0, 1, 1)}, {Kind: api.TermBlock, Numbers: numbers(0, 0, 0, 1, 0, 1)}, {Kind: api.TermBlock, Numbers: numbers(0, 0, 0, 1, 1, -1)},
		{Kind: api.TermBlock, Numbers: numbers(-1<<63, 0, 0, 1, 1, 1)}, {Kind: api.TermBlock, Numbers: numbers(0, 0, 0, 1<<63-1, 1, 1)}, {Kind: api.TermBlock, Numbers: numbers(1<<63-1, 0, 0, 1, 1, 1)},
		{Kind: api.TermBlock, Numbers: numbers(0, 0, 0, 1, 1, 1), A: 1}, {Kind: api.TermBlock, Numbers: numbers(0, 0, 0, 1, 1, 1), B: 1}, {Kind: api.TermBlock, Numbers: numbers(0, 0, 0, 1, 1, 1), Word: "a"},
		{Kind: api.TermJoin, A: 3}, {Kind: api.TermJoin, B: 3}, {Kind: api.TermLess, A: -1}, {Kind: api.TermLess, B: -1}, {Kind: api.TermMeet, A: 1 << 40}, {Kind: api.TermMeet, B: -1 << 63},
		{Kind: api.TermJoin, Numbers: numbers(1)}, {Kind: api.TermLess, Numbers: numbers(0, 0, 0, 0, 0, 1)}, {Kind: api.TermMeet, Word: "a"},
		{Kind: api.TermMove, Numbers: numbers(8)}, {Kind: api.TermMove, Numbers: numbers(0, -8)}, {Kind: api.TermMove, Numbers: numbers(0, 0, 8)}, {Kind: api.TermMove, Numbers: numbers(0, 0, 0, 1)}, {Kind: api.TermMove, A: 3}, {Kind: api.TermMove, B: 1}, {Kind: api.TermMove, Word: "a"},
		{Kind: api.TermTurn, Numbers: numbers(24)}, {Kind: api.TermTurn, Numbers: numbers(-1)}, {Kind: api.TermTurn, Numbers: numbers(0, 1)}, {Kind: api.TermTurn, A: -1}, {Kind: api.TermTurn, B: 1}, {Kind: api.TermTurn, Word: "a"},
		{Kind: api.TermRow}, {Kind: api.TermRow, Numbers: numbers(1)}, {Kind: api.TermRow, Numbers: numbers(9)}, {Kind: api.TermRow, Numbers: numbers(2, 8)}, {Kind: api.TermRow, Numbers: numbers(2, 0, -8)}, {Kind: api.TermRow, Numbers: numbers(2, 0, 0, 8)}, {Kind: api.TermRow, Numbers: numbers(2, 0, 0, 0, 1)}, {Kind: api.TermRow, Numbers: numbers(2), A: 3}, {Kind: api.TermRow, Numbers: numbers(2), B: 1}, {Kind: api.TermRow, Numbers: numbers(2), Word: "a"},
		{Kind: api.TermMirror, Numbers: numbers(3)}, {Kind: api.TermMirror, Numbers: numbers(-1)}, {Kind: api.TermMirror, Numbers: numbers(0, -1)}, {Kind: api.TermMirror, A: 3}, {Kind: api.TermMirror, B: -1}, {Kind: api.TermMirror, Word: "a"},
		{Kind: api.TermSpun, Word: "a", Numbers: numbers(8)}, {Kind: api.TermSpun, Word: "a", Numbers: numbers(-1)}, {Kind: api.TermSpun, Word: "a", Numbers: numbers(0, 1)}, {Kind: api.TermSpun, Word: "a", A: 1}, {Kind: api.TermSpun, Word: "a", B: 1},
		// What is wrong beside the Word is named ahead of it.
		{Kind: api.TermSpun, Numbers: numbers(8)}, {Kind: api.TermSpun, Word: "2(a", B: 1},
	} {
		x.Name = "x"
		wrong(t, behind(3, x), 3, api.ErrArg)
	}
	// No term is before the first one.
	for kind := uint8(2); kind < 9; kind++ {
		wrong(t, []api.Term{{Name: "x", Kind: kind, Numbers: numbers(2)}}, 0, api.ErrArg)
	}
}

func TestF1CheckTwiceAndWord(t *testing.T) {
	again := blocks(5)
	again[3].Name = "b1"
	wrong(t, again, 3, api.ErrTwice)
	again[3].Numbers[3] = 9 // ErrArg is named ahead of ErrTwice
	wrong(t, again, 3, api.ErrArg)
	for _, x := range []struct {
		word string
		z    int
	}{{"", 0}, {"2(a", 0}, {"1(a)", 0}, {"<>", 0}, {"A", 0}, {"a b", 0}, {"e", 0}, {"abe", 0}, {"n", 0}, {"p", 0}, {"9(a)", 0}, {"aaaaaaaaa", 0}, {"8(a)", 1}, {"aa", 7}, {"<ab>", 5}, {"3(abo)", 0}, {strings.Repeat("a", 41), 0}, {strings.Repeat("<", 40) + "a" + strings.Repeat(">", 40), 0}} {
		l := behind(2, api.Term{Name: "x", Kind: api.TermSpun, Word: x.word, Numbers: numbers(x.z)})
		wrong(t, l, 2, api.ErrWord)
		l[2].Name = "b1" // ErrTwice is named ahead of ErrWord
		wrong(t, l, 2, api.ErrTwice)
	}
}

func TestF1CheckLimit(t *testing.T) {
	for _, n := range []int{41, 42, 1000} {
		wrong(t, blocks(n), 40, api.ErrLimit)
	}
	l := blocks(50)
	l[40] = api.Term{} // whatever it is
	wrong(t, l, 40, api.ErrLimit)
	l[45].Name = l[0].Name
	wrong(t, l, 40, api.ErrLimit)
	l[39].Name = l[38].Name // the first one that is refused
	wrong(t, l, 39, api.ErrTwice)
	l[12].Numbers[0] = -1
	wrong(t, l, 12, api.ErrArg)
}

// F1, by the definition: drawings, and lists that differ from one by a field or three.
func TestF1CheckSamples(t *testing.T) {
	r := rand.New(rand.NewPCG(6, 1))
	found := map[api.Errno]int{}
	for range 20000 {
		l := drawing(r, 1+r.IntN(8), false)
		right(t, l)
		for range r.IntN(4) {
			l = spoilt(r, l)
		}
		index, want := check(l)
		if i, e := figure.Check(l); i != index || e != want {
			t.Fatalf("Check(%v): %d, error %d, want %d, %d", l, i, e, index, want)
		}
		found[want]++
	}
	for _, e := range []api.Errno{api.OK, api.ErrArg, api.ErrTwice, api.ErrWord} {
		if found[e] < 50 {
			t.Errorf("only %d lists with error %d", found[e], e)
		}
	}
	l := drawing(r, 60, false)
	for n := range l {
		index, want := check(l[:n])
		if i, e := figure.Check(slices.Clone(l[:n])); i != index || e != want {
			t.Errorf("Check of %d terms: %d, error %d, want %d, %d", n, i, e, index, want)
		}
	}
}
