package figure_test

import (
	"math"
	"math/rand/v2"
	"slices"
	"strings"
	"testing"

	"strickle/api"
	"strickle/figure"
)

// noWords are texts that are no words.
func noWords() []string {
	return []string{"", " ", "A", "aB", "a b", "a ", "0", "a0", "2(a)", "<a>", "-", "`", "{", "a{", "é", "\xff", "a\x00", "a\n", strings.Repeat("a", 41), strings.Repeat("a", 100000), strings.Repeat("a", 39) + "A"}
}

// shortest returns Shortest, which must end well and have Length bytes.
func shortest(t *testing.T, word string) string {
	t.Helper()
	e, f := figure.Shortest(word)
	if n, g := figure.Length(word); n != len(e) || f != api.OK || g != api.OK {
		t.Fatalf("%q: Length %d, Shortest %q, errors %d, %d", word, n, e, g, f)
	}
	return e
}

func TestF6Shortest(t *testing.T) {
	for word, want := range map[string]string{
		"a": "a", "z": "z", "ab": "ab", "aa": "aa", "aaa": "aaa", "aaaa": "4(a)", "aaaaaaaa": "8(a)", "aaaaaaaaa": "9(a)", "abab": "abab", "ababab": "3(ab)", "abba": "<ab>", "abccba": "<abc>", "abcdabcd": "2(abcd)", "abccbaabccba": "<<abc>>", "zyxabccba": "zyx<abc>",
		// The first one as bytes are compared: digits ahead of < and of letters.
		"abcabc": "2(abc)", "aaaaaa": "6(a)", strings.Repeat("a", 10): "5(aa)", strings.Repeat("a", 16): "8(aa)", strings.Repeat("a", 18): "9(aa)", "baaaab": "<baa>", "aaaab": "4(a)b", "aabbaa": "<aab>",
		strings.Repeat("a", 36): "4(9(a))", strings.Repeat("a", 40): "5(8(a))", strings.Repeat("ab", 20): "4(5(ab))", "abcdefghijklmnopqrstuvwxyzabcdefghijklmn": "abcdefghijklmnopqrstuvwxyzabcdefghijklmn",
	} {
		if e := shortest(t, word); e != want {
			t.Errorf("Shortest(%q): %q, want %q", word, e, want)
		}
	}
	for _, word := range noWords() {
		if n, e := figure.Length(word); n != 0 || e != api.ErrArg {
			t.Errorf("Length(%.50q): %d, error %d", word, n, e)
		}
		if s, e := figure.Shortest(word); s != "" || e != api.ErrArg {
			t.Errorf("Shortest(%.50q): %q, error %d", word, s, e)
		}
	}
}

// F6, by all expressions of at most 10 bytes over two letters, and of at most 8 over three: no other one is shorter, or as short and ahead.
func TestF6AllExpressions(t *testing.T) {
	for letters, most := range map[string]int{"ab": 10, "abc": 8} {
		checked := 0
		for word, want := range leastWritten(allWritten(letters, most)) {
			// Of the longer words, which take longer, one of 23.
			if len(word) > most && (len(word)+strings.Count(word, "a"))%23 != 0 {
				continue
			}
			checked++
			if e := shortest(t, word); e != want {
				t.Fatalf("Shortest(%q): %q, want %q", word, e, want)
			}
		}
		if checked < 2000 {
			t.Errorf("only %d words over %q", checked, letters)
		}
	}
}

// F6, by the first items of expressions: words of up to 40 letters.
func TestF6Words(t *testing.T) {
	r := rand.New(rand.NewPCG(6, 8))
	less := 0
	for _, word := range words(r, 400) {
		e := shortest(t, word)
		if want := byItems(word); e != want {
			t.Fatalf("Shortest(%q): %q, want %q", word, e, want)
		}
		if len(e) < len(word) {
			less++
		}
	}
	if less < 200 {
		t.Errorf("only %d words have shorter expressions", less)
	}
}

func TestF7Bounds(t *testing.T) {
	for word, want := range map[string][]int{"a": {1}, "ab": {1, 2, 1}, "abab": {1, 2, 3, 4, 1, 2, 3, 1, 2, 1}, "aaaaa": {1, 2, 3, 4, 4, 1, 2, 3, 4, 1, 2, 3, 1, 2, 1}, "aaaaab": {1, 2, 3, 4, 4, 5, 1, 2, 3, 4, 5, 1, 2, 3, 4, 1, 2, 3, 1, 2, 1}} {
		if l, e := figure.Bounds(word); !slices.Equal(l, want) || e != api.OK {
			t.Errorf("Bounds(%q): %v, error %d, want %v", word, l, e, want)
		}
	}
	r := rand.New(rand.NewPCG(6, 9))
	for _, word := range words(r, 60) {
		l, e := figure.Bounds(word)
		n := len(word)
		if len(l) != n*(n+1)/2 || e != api.OK {
			t.Fatalf("Bounds(%q): %d numbers, error %d", word, len(l), e)
		}
		next := 0
		for i := range n {
			for j := i + 1; j <= n; j++ {
				if want := len(byItems(word[i:j])); l[next] != want {
					t.Fatalf("Bounds(%q): %d for %q, want %d", word, l[next], word[i:j], want)
				}
				next++
			}
		}
	}
	for _, word := range noWords() {
		if l, e := figure.Bounds(word); len(l) != 0 || e != api.ErrArg {
			t.Errorf("Bounds(%.50q): %v, error %d", word, l, e)
		}
	}
}

func TestF7CheckBounds(t *testing.T) {
	for _, x := range []struct {
		word string
		l    []int
		want bool
	}{
		{"a", []int{1}, true}, {"a", []int{0}, true}, {"a", []int{-1000}, true}, {"a", []int{2}, false}, {"a", []int{-1001}, false}, {"a", []int{math.MinInt}, false}, {"a", []int{math.MaxInt}, false}, {"a", []int{1001}, false},
		{"a", nil, false}, {"a", []int{1, 1}, false}, {"ab", nil, false}, {"ab", []int{1}, false}, {"ab", []int{1, 2}, false}, {"ab", []int{1, 2, 1, 1}, false}, {"ab", []int{1, 2, 1, 1, 1, 1}, false},
		{"ab", []int{1, 2, 1}, true}, {"ab", []int{1, 3, 1}, false}, {"ab", []int{0, 0, -5}, false}, {"ab", []int{0, -5, -5}, true}, {"ab", []int{2, 2, 1}, false}, {"ab", []int{1, 2, 2}, false}, {"ab", []int{1, -1000, 1}, true}, {"ab", []int{1, -1001, 1}, false}, {"ab", []int{1, math.MinInt, 1}, false}, {"ab", []int{-500, -1000, -500}, true}, {"ab", []int{-501, -1000, -500}, false},
		// The order is by the beginnings, then by the ends.
		{"abc", []int{1, 2, 3, 1, 2, 1}, true}, {"abc", []int{1, 2, 2, 1, 1, 1}, true}, {"abc", []int{1, 1, 2, 1, 2, 1}, true}, {"abc", []int{1, 1, 3, 1, 2, 1}, false}, {"abc", []int{1, 2, 3, 1, 1, 1}, false}, {"abc", []int{1, 2, 3, 1, 3, 1}, false},
		// aaaa: 4 times a, 2 times aa, aa and aa backwards.
		{"aaaa", []int{1, 2, 3, 4, 1, 2, 3, 1, 2, 1}, true}, {"aaaa", []int{0, 2, 3, 4, 1, 2, 3, 1, 2, 1}, false}, {"aaaa", []int{0, 1, 2, 3, 1, 2, 3, 1, 2, 1}, true}, {"aaaa", []int{-2, -1, 0, 1, 1, 2, 3, 1, 2, 1}, true}, {"aaaa", []int{-2, -1, 0, 2, 1, 2, 3, 1, 2, 1}, false},
		// abba: < and > are 2 more than ab.
		{"abba", []int{1, 1, 2, 3, 1, 2, 3, 1, 2, 1}, true}, {"abba", []int{1, 1, 2, 4, 1, 2, 3, 1, 2, 1}, false}, {"abba", []int{1, -9, -8, -7, 1, 2, 3, 1, 2, 1}, true}, {"abba", []int{1, -9, -8, -6, 1, 2, 3, 1, 2, 1}, false},
	} {
		if ok := holds(x.word, x.l); ok != x.want {
			t.Errorf("a table %v of %q: %v by the definition", x.l, x.word, ok)
		}
		if ok, e := figure.CheckBounds(x.word, x.l); ok != x.want || e != api.OK {
			t.Errorf("CheckBounds(%q, %v): %v, error %d", x.word, x.l, ok, e)
		}
	}
	for _, word := range noWords() {
		for _, l := range [][]int{nil, {1}, {1, 2, 1}, make([]int, 820), make([]int, 861), {math.MinInt}} {
			if ok, e := figure.CheckBounds(word, l); ok || e != api.ErrArg {
				t.Errorf("CheckBounds(%.50q, %v): %v, error %d", word, l, ok, e)
			}
		}
	}
}

// tables are lists for a word that are near a table of it that holds: some numbers of Bounds are less, or more.
func tables(r *rand.Rand, word string, n int) [][]int {
	b, _ := figure.Bounds(word)
	var l [][]int
	for range n {
		x := slices.Clone(b)
		switch r.IntN(4) {
		case 0:
			x[r.IntN(len(x))]++
		case 1:
			x[r.IntN(len(x))] -= 1 + r.IntN(3)
		case 2:
			for range 1 + r.IntN(3) {
				x[r.IntN(len(x))] -= 1 + r.IntN(2)
			}
			x = settled(word, x)
		case 3:
			for range 1 + r.IntN(4) {
				x[r.IntN(len(x))] += r.IntN(5) - 3
			}
		}
		l = append(l, x)
	}
	return l
}

// F7, by the definition; P6.3: no number of a table that holds is greater than the length of its part.
func TestP63Bounds(t *testing.T) {
	r := rand.New(rand.NewPCG(6, 10))
	accepted, refused := 0, 0
	small := []string{"a", "aa", "ab", "aaaa", "abab", "abba", "aaaaaa", "abcabc", "aabbaa", "ababab", "aaaaaaaaa", "abccbaabccba"}
	for _, word := range append(words(r, 30), slices.Concat(small, small, small, small)...) {
		b, e := figure.Bounds(word)
		if most := settled(word, slices.Repeat([]int{1000}, len(b))); !slices.Equal(b, most) {
			t.Fatalf("Bounds(%q): %v, and the greatest table that holds is %v", word, b, most)
		}
		if !holds(word, b) || e != api.OK {
			t.Fatalf("Bounds(%q): %v, error %d, which does not hold", word, b, e)
		}
		l := tables(r, word, 40)
		zero := make([]int, len(b))
		l = append(l, zero, slices.Repeat([]int{1}, len(b)), slices.Repeat([]int{-1}, len(b)))
		for _, x := range l {
			ok, e := figure.CheckBounds(word, x)
			if want := holds(word, x); ok != want || e != api.OK {
				t.Fatalf("CheckBounds(%q, %v): %v, error %d, want %v", word, x, ok, e, want)
			}
			if !ok {
				refused++
				continue
			}
			accepted++
			for i, n := range x {
				if n > b[i] {
					t.Fatalf("CheckBounds(%q, %v) accepts %d where the length is %d", word, x, n, b[i])
				}
			}
		}
	}
	if accepted < 500 || refused < 1000 {
		t.Errorf("only %d tables are accepted, %d refused", accepted, refused)
	}
}

// P6.3 (T6): Spread of Shortest is the word, and CheckShortest accepts it with Bounds.
func TestP63Shortest(t *testing.T) {
	r := rand.New(rand.NewPCG(6, 11))
	for _, word := range words(r, 150) {
		e := shortest(t, word)
		if w, f := figure.Spread(e); w != word || f != api.OK {
			t.Fatalf("Spread(%q): %q, error %d, want %q", e, w, f, word)
		}
		l, f := figure.Bounds(word)
		if ok, g := figure.CheckShortest(word, e, l); !ok || f != api.OK || g != api.OK {
			t.Fatalf("CheckShortest(%q, %q): %v, errors %d, %d", word, e, ok, f, g)
		}
		// The word itself is an expression of it: as short as one can be, or not.
		if ok, g := figure.CheckShortest(word, word, l); ok != (len(word) == len(e)) || g != api.OK {
			t.Fatalf("CheckShortest(%q, %q): %v, error %d", word, word, ok, g)
		}
	}
}

// T6: whatever table is accepted with an expression, none of the word is shorter.
func TestT6Shortest(t *testing.T) {
	r := rand.New(rand.NewPCG(6, 12))
	least := leastWritten(allWritten("ab", 8))
	accepted := 0
	for _, l := range allWritten("ab", 6) {
		for _, x := range l {
			if len(x.word) > 16 || r.IntN(3) > 0 {
				continue
			}
			for _, table := range tables(r, x.word, 6) {
				ok, e := figure.CheckShortest(x.word, x.text, table)
				want := holds(x.word, table) && table[len(x.word)-1] == len(x.text)
				if ok != want || e != api.OK || ok && len(least[x.word]) != len(x.text) {
					t.Fatalf("CheckShortest(%q, %q, %v): %v, error %d, but %q is shortest", x.word, x.text, table, ok, e, least[x.word])
				}
				if ok {
					accepted++
				}
			}
		}
	}
	if accepted < 50 {
		t.Errorf("only %d expressions are accepted", accepted)
	}
}

func TestF8CheckShortest(t *testing.T) {
	bounds := func(word string) []int {
		l, e := figure.Bounds(word)
		if e != api.OK {
			t.Fatalf("Bounds(%q): error %d", word, e)
		}
		return l
	}
	low := slices.Repeat([]int{0}, 10)
	for _, x := range []struct {
		word, e string
		l       []int
		want    bool
	}{
		{"abba", "<ab>", bounds("abba"), true}, {"abba", "abba", bounds("abba"), true}, {"aaaa", "4(a)", bounds("aaaa"), true}, {"aaaa", "<aa>", bounds("aaaa"), true}, {"aaaa", "aaaa", bounds("aaaa"), true}, {"aaaa", "2(aa)", bounds("aaaa"), false}, {"a", "a", []int{1}, true},
		{"aaaaa", "aaaaa", bounds("aaaaa"), false}, {"aaaaa", "5(a)", bounds("aaaaa"), true}, {"abccba", "<abc>", bounds("abccba"), true}, {"abccba", "abccba", bounds("abccba"), false},
		// An expression of another word, or none.
		{"abba", "abab", bounds("abba"), false}, {"abba", "<ba>", bounds("abba"), false}, {"abba", "2(a)", bounds("abba"), false}, {"abba", "<ab", bounds("abba"), false}, {"abba", "4(a)", bounds("abba"), false}, {"abba", "ABBA", bounds("abba"), false}, {"abba", "", bounds("abba"), false}, {"abba", "", low, false}, {"aaaa", "9(a)", bounds("aaaa"), false}, {"abba", "xxxx", bounds("abba"), false},
		// A table of another word, one that does not hold, one with another number of the whole word.
		{"abba", "<ab>", bounds("abb"), false}, {"abba", "<ab>", bounds("abbab"), false}, {"abba", "<ab>", nil, false}, {"abba", "<ab>", low, false}, {"abba", "<ab>", []int{1, 2, 3, 4, 1, 2, 3, 1, 2, 2}, false}, {"abba", "<ab>", []int{1, 2, 3, 3, 1, 2, 3, 1, 2, 1}, false}, {"abba", "<ab>", []int{1, 2, 3, 5, 1, 2, 3, 1, 2, 1}, false}, {"abba", "<ab>", []int{1, 2, 3, 4, 1, 2, 3, 1, 2, -1001}, false}, {"a", "a", []int{0}, false}, {"a", "a", []int{2}, false},
		{"abba", "<ab>", []int{1, 2, 3, 4, 1, 2, 3, 1, 1, 1}, false}, {"abba", "<ab>", []int{1, 2, 3, 4, -9, 2, 3, 1, 2, 1}, false},
		// The numbers of other parts may be less than their lengths.
		{"aaaa", "4(a)", []int{1, 2, 3, 4, 1, 2, 3, 1, 2, 1}, true}, {"aaaaaaaa", "8(a)", settled("aaaaaaaa", append([]int{1, 2, 3, 4, 4, 4, 4, 4, 1, 1}, slices.Repeat([]int{9}, 26)...)), true},
	} {
		if ok, e := figure.CheckShortest(x.word, x.e, x.l); ok != x.want || e != api.OK {
			t.Errorf("CheckShortest(%q, %q, %v): %v, error %d", x.word, x.e, x.l, ok, e)
		}
	}
	for _, word := range noWords() {
		for _, e := range []string{word, "a", "2(a", ""} {
			if ok, f := figure.CheckShortest(word, e, []int{1}); ok || f != api.ErrArg {
				t.Errorf("CheckShortest(%.50q, %.50q): %v, error %d", word, e, ok, f)
			}
		}
	}
}

// P6.4: lengths of words, of words backwards, behind each other, and so many times.
func TestP64Lengths(t *testing.T) {
	r := rand.New(rand.NewPCG(6, 13))
	length := func(word string) int {
		n, e := figure.Length(word)
		if e != api.OK {
			t.Fatalf("Length(%q): error %d", word, e)
		}
		return n
	}
	all := words(r, 120)
	for i, word := range all {
		n := length(word)
		if n < 1 || n > len(word) || length(reversed(word)) != n {
			t.Fatalf("Length(%q): %d, and %d backwards", word, n, length(reversed(word)))
		}
		if next := all[(i+1)%len(all)]; len(word)+len(next) <= 40 && length(word+next) > n+length(next) {
			t.Fatalf("Length of %q and %q: %d, more than %d and %d", word, next, length(word+next), n, length(next))
		}
		for k := 2; k <= 9 && k*len(word) <= 40; k++ {
			if many := length(strings.Repeat(word, k)); many > n+3 {
				t.Fatalf("Length of %d times %q: %d, more than %d and 3", k, word, many, n)
			}
		}
	}
}
