package figure_test

import (
	"cmp"
	"fmt"
	"math/rand/v2"
	"regexp"
	"slices"
	"strconv"
	"strings"
	"testing"

	"strickle/api"
	"strickle/figure"
	"strickle/solid"
)

// ringText is the chapter's drawing of a ring.
const ringText = "base = block 0 0 0 3 3 1\nhole = block 1 1 0 1 1 1\nring = less base hole\n"

// parsed returns the drawing with a text, which must have one.
func parsed(t *testing.T, src string) []api.Term {
	t.Helper()
	l, f := figure.Parse(src)
	if f != (api.Fault{}) {
		t.Fatalf("Parse(%q): %v", src, f)
	}
	return l
}

// read returns the solid with a text.
func read(t *testing.T, text string) api.Solid {
	t.Helper()
	s, e := solid.Read(text)
	if e != api.OK {
		t.Fatalf("solid.Read(%q): error %d", text, e)
	}
	return s
}

// The forms of names, of words, and of the innermost brackets of expressions.
var (
	nameForm   = regexp.MustCompile(`^[a-z][a-z0-9-]{0,23}$`)
	wordForm   = regexp.MustCompile(`^[a-z]+$`)
	repeatForm = regexp.MustCompile(`[2-9]\([a-z]+\)`)
	mirrorForm = regexp.MustCompile(`<[a-z]+>`)
)

// spread says by rewriting what the word of an expression is: the innermost brackets are replaced by their words until none is left.
func spread(e string) (string, bool) {
	if len(e) > 80 {
		return "", false
	}
	for before := ""; before != e; {
		before = e
		e = repeatForm.ReplaceAllStringFunc(e, func(s string) string { return strings.Repeat(s[2:len(s)-1], int(s[0]-'0')) })
		e = mirrorForm.ReplaceAllStringFunc(e, func(s string) string { return s[1:len(s)-1] + reversed(s[1:len(s)-1]) })
		if len(e) > 10000 {
			return "", false
		}
	}
	if len(e) > 40 || !wordForm.MatchString(e) {
		return "", false
	}
	return e, true
}

// reversed returns a text backwards.
func reversed(s string) string {
	r := ""
	for i := range len(s) {
		r = s[i:i+1] + r
	}
	return r
}

// cellsOf returns the cells of a disc by the definition: false if there is none.
func cellsOf(letter byte) (map[[2]int]bool, bool) {
	most, ok := map[byte]int{'a': 4, 'b': 16, 'c': 36, 'd': 64, 'o': -1}[letter]
	cells := map[[2]int]bool{}
	for x := range 8 {
		for y := range 8 {
			if (2*x-7)*(2*x-7)+(2*y-7)*(2*y-7) <= most {
				cells[[2]int{x, y}] = true
			}
		}
	}
	return cells, ok
}

// spunOf returns the spun solid of letters from a plane on, cell by cell: false if there is none.
func spunOf(word string, z int) (api.Solid, bool) {
	var l []api.Cell
	for i := range len(word) {
		cells, ok := cellsOf(word[i])
		if !ok || z+i > 7 {
			return api.Solid{}, false
		}
		for c := range cells {
			l = append(l, api.Cell{X: c[0], Y: c[1], Z: z + i})
		}
	}
	s, e := solid.Of(l)
	return s, e == api.OK && word != ""
}

// within says whether a number is from one to another one.
func within(n, least, most int) bool { return n >= least && n <= most }

// check says by the definition of terms what Check says.
func check(l []api.Term) (int, api.Errno) {
	for i, t := range l {
		if i == 40 {
			return i, api.ErrLimit
		}
		names, numbers, fine := 0, 0, true
		n := t.Numbers
		switch t.Kind {
		case 1:
			numbers = 6
			for k := range 3 {
				fine = fine && within(n[k], 0, 7) && within(n[k+3], 1, 8) && n[k]+n[k+3] <= 8
			}
		case 2, 3, 4:
			names = 2
		case 5:
			names, numbers = 1, 3
			fine = within(n[0], -7, 7) && within(n[1], -7, 7) && within(n[2], -7, 7)
		case 6:
			names, numbers = 1, 1
			fine = within(n[0], 0, 23)
		case 7:
			names, numbers = 1, 4
			fine = within(n[0], 2, 8) && within(n[1], -7, 7) && within(n[2], -7, 7) && within(n[3], -7, 7)
		case 8:
			names, numbers = 1, 1
			fine = within(n[0], 0, 2)
		case 9:
			numbers = 1
			fine = within(n[0], 0, 7)
		default:
			fine = false
		}
		for k := numbers; k < 6; k++ {
			fine = fine && n[k] == 0
		}
		fine = fine && (names >= 1 && within(t.A, 0, i-1) || names < 1 && t.A == 0)
		fine = fine && (names >= 2 && within(t.B, 0, i-1) || names < 2 && t.B == 0)
		if !fine || t.Kind != 9 && t.Word != "" || !nameForm.MatchString(t.Name) {
			return i, api.ErrArg
		}
		if slices.ContainsFunc(l[:i], func(u api.Term) bool { return u.Name == t.Name }) {
			return i, api.ErrTwice
		}
		if t.Kind == 9 {
			word, ok := spread(t.Word)
			if _, can := spunOf(word, n[0]); !ok || !can {
				return i, api.ErrWord
			}
		}
	}
	return 0, api.OK
}

// needs returns the indices that a term of a drawing has.
func needs(t api.Term) []int {
	switch t.Kind {
	case 2, 3, 4:
		return []int{t.A, t.B}
	case 5, 6, 7, 8:
		return []int{t.A}
	}
	return nil
}

// value says by cells what the value of a term of a drawing is, if those of the terms before it are known: false if it cannot be.
func value(t api.Term, values []api.Solid) (api.Solid, bool) {
	n := t.Numbers
	var l []api.Cell
	switch t.Kind {
	case 1:
		for x := range n[3] {
			for y := range n[4] {
				for z := range n[5] {
					l = append(l, api.Cell{X: n[0] + x, Y: n[1] + y, Z: n[2] + z})
				}
			}
		}
	case 2, 3, 4:
		a, b := solid.Cells(values[t.A]), solid.Cells(values[t.B])
		both := slices.DeleteFunc(slices.Clone(a), func(c api.Cell) bool { return !slices.Contains(b, c) })
		only := slices.DeleteFunc(slices.Clone(a), func(c api.Cell) bool { return slices.Contains(b, c) })
		l = [...][]api.Cell{slices.Concat(a, b), only, both}[t.Kind-2]
	case 5:
		return rowOf(values[t.A], [][3]int{{n[0], n[1], n[2]}})
	case 6:
		s, e := solid.Placed(values[t.A], api.Motion{Turn: n[0]})
		return s, e == api.OK
	case 7:
		var moves [][3]int
		for k := range n[0] {
			moves = append(moves, [3]int{k * n[1], k * n[2], k * n[3]})
		}
		return rowOf(values[t.A], moves)
	case 8:
		for _, c := range solid.Cells(values[t.A]) {
			l = append(l, [...]api.Cell{{X: 7 - c.X, Y: c.Y, Z: c.Z}, {X: c.X, Y: 7 - c.Y, Z: c.Z}, {X: c.X, Y: c.Y, Z: 7 - c.Z}}[n[0]])
		}
	case 9:
		word, _ := spread(t.Word)
		return spunOf(word, n[0])
	}
	s, e := solid.Of(l)
	return s, e == api.OK
}

// rowOf returns the cells of a solid with each of some moves: false if one leaves the grid.
func rowOf(s api.Solid, moves [][3]int) (api.Solid, bool) {
	var row api.Solid
	for _, m := range moves {
		var l []api.Cell
		for _, c := range solid.Cells(s) {
			l = append(l, api.Cell{X: c.X + m[0], Y: c.Y + m[1], Z: c.Z + m[2]})
		}
		one, e := solid.Of(l)
		if e != api.OK {
			return api.Solid{}, false
		}
		row = solid.Join(row, one)
	}
	return row, true
}

// pick returns one of some things.
func pick[T any](r *rand.Rand, l ...T) T { return l[r.IntN(len(l))] }

// term returns a term of a drawing that stands behind so many others.
func term(r *rand.Rand, i int) api.Term {
	t := api.Term{Name: "t" + strconv.Itoa(i), Kind: 1 + uint8(r.IntN(9))}
	if i == 0 {
		t.Kind = pick[uint8](r, 1, 1, 9)
	}
	small := func() int { return pick(r, 0, 0, 1, -1, 2, -2, r.IntN(15)-7) }
	switch t.Kind {
	case 1:
		for k := range 3 {
			t.Numbers[k] = r.IntN(8)
			t.Numbers[k+3] = 1 + r.IntN(min(4, 8-t.Numbers[k]))
		}
	case 2, 3, 4:
		t.A, t.B = r.IntN(i), r.IntN(i)
	case 5:
		t.A, t.Numbers = r.IntN(i), [6]int{small(), small(), small()}
	case 6:
		t.A, t.Numbers = r.IntN(i), [6]int{r.IntN(24)}
	case 7:
		t.A, t.Numbers = r.IntN(i), [6]int{2 + r.IntN(2), small(), small(), small()}
	case 8:
		t.A, t.Numbers = r.IntN(i), [6]int{r.IntN(3)}
	case 9:
		t.Numbers[0] = r.IntN(5)
		t.Word = pick(r, "a", "o", "bo", "d2(c)", "<b>", "2(<d>)", "oad", "3(b)", "<a>o", "abc", "o2(o)")
	}
	return t
}

// drawing returns a drawing of so many terms; if it has to be, all of its terms can be.
func drawing(r *rand.Rand, n int, can bool) []api.Term {
	var l []api.Term
	var values []api.Solid
	for len(l) < n {
		t := term(r, len(l))
		s, ok := value(t, values)
		if can && !ok {
			continue
		}
		l, values = append(l, t), append(values, s)
	}
	return l
}

// odd returns a number that is near a bound of some term, or far from all of them.
func odd(r *rand.Rand) int {
	return pick(r, -1<<63, -1000, -8, -7, -1, 0, 1, 2, 3, 7, 8, 9, 23, 24, 39, 40, 41, 1000, 1<<63-1)
}

// spoilt returns a list with one field of one term changed.
func spoilt(r *rand.Rand, l []api.Term) []api.Term {
	l = slices.Clone(l)
	t := &l[r.IntN(len(l))]
	switch r.IntN(6) {
	case 0:
		t.Name = pick(r, "", "A", "a_", "9", "-a", "a-", "t0", "t1", "t2", "ab cd", "é", "a\n", "#a", strings.Repeat("a", 24), strings.Repeat("a", 25))
	case 1:
		t.Kind = pick(r, 0, 1, 2, 5, 7, 9, 10, 255, t.Kind+1)
	case 2:
		t.A = odd(r)
	case 3:
		t.B = odd(r)
	case 4:
		t.Numbers[r.IntN(6)] = odd(r)
	case 5:
		t.Word = pick(r, "", "a", "e", "2(a", "<>", "aaaaaaaa", "9(a)", "4(<d>)", "1(a)", "a b", "<<<<a>>>>", "3(o)")
	}
	return l
}

// written is an expression, and its word.
type written struct{ text, word string }

// allWritten returns, by their numbers of bytes, all expressions over some letters with at most so many bytes, of words of at most 40 letters.
func allWritten(letters string, most int) [][]written {
	items, all := make([][]written, most+1), make([][]written, most+1)
	add := func(l []written, text, word string) []written {
		if len(word) > 40 {
			return l
		}
		return append(l, written{text, word})
	}
	for n := 1; n <= most; n++ {
		if n == 1 {
			for i := range len(letters) {
				items[n] = append(items[n], written{letters[i : i+1], letters[i : i+1]})
			}
		}
		if n > 3 {
			for _, x := range all[n-3] {
				for k := 2; k <= 9; k++ {
					items[n] = add(items[n], fmt.Sprintf("%d(%s)", k, x.text), strings.Repeat(x.word, k))
				}
			}
		}
		if n > 2 {
			for _, x := range all[n-2] {
				items[n] = add(items[n], "<"+x.text+">", x.word+reversed(x.word))
			}
		}
		all[n] = slices.Clone(items[n])
		for k := 1; k < n; k++ {
			for _, x := range items[k] {
				for _, y := range all[n-k] {
					all[n] = add(all[n], x.text+y.text, x.word+y.word)
				}
			}
		}
	}
	return all
}

// leastWritten returns the first one of the shortest expressions of each word that some expressions have.
func leastWritten(all [][]written) map[string]string {
	least := map[string]string{}
	for _, l := range all {
		for _, x := range l {
			e, ok := least[x.word]
			if !ok || len(x.text) == len(e) && x.text < e {
				least[x.word] = x.text
			}
		}
	}
	return least
}

// byItems returns the first one of the shortest expressions of a word, by its first item.
func byItems(word string) string {
	memory := map[string]string{"": ""}
	var find func(w string) string
	find = func(w string) string {
		if e, ok := memory[w]; ok {
			return e
		}
		var l []string
		l = append(l, w[:1]+find(w[1:]))
		for n := 2; n <= len(w); n++ {
			for k := 2; k <= 9; k++ {
				if n%k == 0 && strings.Repeat(w[:n/k], k) == w[:n] {
					l = append(l, strconv.Itoa(k)+"("+find(w[:n/k])+")"+find(w[n:]))
				}
			}
			if n%2 == 0 && w[:n] == reversed(w[:n]) {
				l = append(l, "<"+find(w[:n/2])+">"+find(w[n:]))
			}
		}
		slices.SortFunc(l, func(a, b string) int { return cmp.Or(len(a)-len(b), strings.Compare(a, b)) })
		memory[w] = l[0]
		return l[0]
	}
	return find(word)
}

// words are words of at most 40 letters: plain ones, and ones with much that is repeated or mirrored.
func words(r *rand.Rand, n int) []string {
	l := []string{"a", "z", "abccba", strings.Repeat("a", 40), strings.Repeat("ab", 20), strings.Repeat("abcba", 8), "abcdefghijklmnopqrstuvwxyzabcdefghijklmn"}
	for range n {
		w := ""
		most := 1 + r.IntN(40)
		for len(w) < most {
			switch r.IntN(6) {
			case 0, 1, 2:
				w += pick(r, "a", "b", "a", "b", "c", "x")
			case 3:
				w = strings.Repeat(w, 2+r.IntN(8))
			case 4:
				w += reversed(w)
			case 5:
				w += w[:len(w)/2]
			}
			w = w[:min(len(w), 40)]
		}
		l = append(l, w)
	}
	return l
}

// table is the numbers of a table of a word, by the first and the last letter of the part.
type table map[[2]int]int

// tableOf returns the table that a list is, if it has the right number of numbers.
func tableOf(n int, l []int) table {
	t := table{}
	for i := range n {
		for j := i; j < n; j++ {
			t[[2]int{i, j}] = l[len(t)]
		}
	}
	return t
}

// allowed says by the definition how great the number of a part can be in a table that holds.
func (t table) allowed(word string, i, j int) int {
	if i == j {
		return 1
	}
	most := 1 << 30
	for k := i; k < j; k++ {
		first := t[[2]int{i, k}]
		most = min(most, first+t[[2]int{k + 1, j}])
		size, rest := k-i+1, word[k+1:j+1]
		if times := (j - i + 1) / size; times <= 9 && strings.Repeat(word[i:k+1], times) == word[i:j+1] {
			most = min(most, first+3)
		}
		if len(rest) == size && reversed(rest) == word[i:k+1] {
			most = min(most, first+2)
		}
	}
	return most
}

// holds says by the definition whether a list is a table of a word that holds.
func holds(word string, l []int) bool {
	n := len(word)
	if len(l) != n*(n+1)/2 {
		return false
	}
	t := tableOf(n, l)
	for p, number := range t {
		if number < -1000 || number > 1000 || number > t.allowed(word, p[0], p[1]) {
			return false
		}
	}
	return true
}

// settled returns a table that holds: the greatest one with no number greater than in a list.
func settled(word string, l []int) []int {
	n := len(word)
	t := tableOf(n, l)
	for more := range n {
		for i := range n - more {
			p := [2]int{i, i + more}
			t[p] = min(t[p], t.allowed(word, i, i+more))
		}
	}
	var x []int
	for i := range n {
		for j := i; j < n; j++ {
			x = append(x, t[[2]int{i, j}])
		}
	}
	return x
}

// solids are solids of several sorts: empty, full, single cells, blocks that overlap, sparse ones, dense ones.
func solids(r *rand.Rand, n int) []api.Solid {
	full := api.Solid{}
	for z := range full {
		full[z] = 1<<64 - 1
	}
	l := []api.Solid{{}, full, {1}, {7: 1 << 63}, {0x70507}, {0x107}}
	for i := range n {
		var s api.Solid
		switch i % 4 {
		case 0:
			d := drawing(r, 1+r.IntN(8), true)
			s, _, _ = figure.Compile(d)
		case 1:
			for range 1 + r.IntN(5) {
				s[r.IntN(8)] |= 1 << r.IntN(64)
			}
		case 2:
			for z := range s {
				s[z] = r.Uint64() & r.Uint64()
			}
		case 3:
			s = full
			for range 1 + r.IntN(6) {
				s[r.IntN(8)] &^= 1 << r.IntN(64)
			}
		}
		l = append(l, s)
	}
	return l
}
