package figure_test

import (
	"math/rand/v2"
	"slices"
	"strings"
	"testing"

	"strickle/api"
	"strickle/figure"
)

// wrongExpressions are texts that are no expressions.
func wrongExpressions() []string {
	return []string{
		"", " ", "A", "Z", "`", "{", "a ", " a", "a b", "a\n", "a\x00", "\x00", "\xff", "é", "a-b", "0", "1", "2", "9", "a2", "2a", "22(a)", "12(a)", "2 (a)", "2((a))", "0(a)", "1(a)", "(a)", "()", "2()", "2(", "2)", "(", ")", "a)", "2(a", "2(a))", "2a)", "2(a>", "2<a)", "2<a>", "-2(a)", "2[a]", "10(a)", ":(a)", "/(a)", "a(a)", "2(A)", "2(0(a))", "2(a1)", "2(2)", "2(2())",
		"<", ">", "<>", "><", "<a", "a>", "<a>>", "<<a>", "<a)", "a<", "<>a", "a<>", "2(<>)", "<2()>", "<2(a>)", "2(<a)>", "<A>", "< a>", "<a >", "<a><", "a><b",
		"5(9(a))", "9(5(a))", "2(<<9(a)>>)", strings.Repeat("a", 41), "<3(7(a))>", "<" + strings.Repeat("a", 21) + ">", "3(" + strings.Repeat("a", 14) + ")", "8(5(a))b", "a8(5(a))", "<<<<<<a>>>>>>",
		strings.Repeat("<", 40) + "a" + strings.Repeat(">", 40), strings.Repeat("9(", 26) + "a" + strings.Repeat(")", 26), strings.Repeat("<", 5000), strings.Repeat("2(", 50000), strings.Repeat("a", 100000), strings.Repeat("<", 50000) + "a" + strings.Repeat(">", 50000),
		// One byte and one letter more than the longest expression of a word of 40 letters has.
		strings.Repeat("2(a)", 20) + "a",
	}
}

func TestF5Spread(t *testing.T) {
	for e, want := range map[string]string{
		"a": "a", "z": "z", "ab": "ab", "2(ab)c": "ababc", "<ab>": "abba", "3(<a>)": "aaaaaa", "<2(ab)c>": "ababccbaba", "2(<ab>c)": "abbacabbac", "9(a)": "aaaaaaaaa", "2(a)3(b)<c>": "aabbbcc", "<<ab>>": "abbaabba", "2(2(2(a)))": "aaaaaaaa", "x<y2(z)>x": "xyzzzzyx",
		"2(a)3(a)4(a)5(a)6(a)7(a)8(a)": strings.Repeat("a", 35), "4(bcd)": "bcdbcdbcdbcd",
		"8(5(a))": strings.Repeat("a", 40), "5(8(a))": strings.Repeat("a", 40), "<" + strings.Repeat("b", 20) + ">": strings.Repeat("b", 40), strings.Repeat("c", 40): strings.Repeat("c", 40), "<<<5(a)>>>": strings.Repeat("a", 40),
		strings.Repeat("2(a)", 20): strings.Repeat("a", 40), strings.Repeat("2(a)", 19) + "<b>": strings.Repeat("a", 38) + "bb",
	} {
		if w, f := figure.Spread(e); w != want || f != api.OK {
			t.Errorf("Spread(%q): %q, error %d, want %q", e, w, f, want)
		}
	}
	for _, e := range wrongExpressions() {
		if w, ok := spread(e); ok {
			t.Errorf("%q is the expression of %q", e, w)
		}
		if w, f := figure.Spread(e); w != "" || f != api.ErrWord {
			t.Errorf("Spread(%.90q): %q, error %d", e, w, f)
		}
	}
}

func TestF5Backwards(t *testing.T) {
	for e, want := range map[string]string{
		"a": "a", "ab": "ba", "abc": "cba", "ab2(cd)<ef>": "<ef>2(dc)ba", "<ab>": "<ab>", "2(ab)": "2(ba)", "2(3(ab)c)": "2(c3(ba))", "<2(ab)c>d": "d<2(ab)c>", "2(<ab>c)": "2(c<ab>)", "<a<bc>d>e": "e<a<bc>d>", "2(a)3(b)": "3(b)2(a)",
		strings.Repeat("2(a)", 19) + "b": "b" + strings.Repeat("2(a)", 19), strings.Repeat("2(a)", 20): strings.Repeat("2(a)", 20),
	} {
		if b, f := figure.Backwards(e); b != want || f != api.OK {
			t.Errorf("Backwards(%q): %q, error %d, want %q", e, b, f, want)
		}
	}
	for _, e := range wrongExpressions() {
		if b, f := figure.Backwards(e); b != "" || f != api.ErrWord {
			t.Errorf("Backwards(%.90q): %q, error %d", e, b, f)
		}
	}
}

// items returns the items of an expression, by the brackets that are open.
func items(e string) []string {
	var l []string
	open, begin := 0, 0
	for i := range len(e) {
		switch e[i] {
		case '(', '<':
			open++
		case ')', '>':
			open--
		}
		if open == 0 && !strings.Contains("23456789", e[i:i+1]) {
			l = append(l, e[begin:i+1])
			begin = i + 1
		}
	}
	return l
}

// turnedBack returns an expression backwards, item by item.
func turnedBack(e string) string {
	back := ""
	for _, item := range items(e) {
		if strings.HasSuffix(item, ")") {
			item = item[:2] + turnedBack(item[2:len(item)-1]) + ")"
		}
		back = item + back
	}
	return back
}

// P6.5: all expressions over a and b of at most 7 bytes, and longer ones.
func TestP65Backwards(t *testing.T) {
	check := func(x written) {
		t.Helper()
		b, e := figure.Backwards(x.text)
		if b != turnedBack(x.text) || e != api.OK {
			t.Fatalf("Backwards(%q): %q, error %d, want %q", x.text, b, e, turnedBack(x.text))
		}
		if w, e := figure.Spread(x.text); w != x.word || e != api.OK {
			t.Fatalf("Spread(%q): %q, error %d, want %q", x.text, w, e, x.word)
		}
		if w, e := figure.Spread(b); w != reversed(x.word) || e != api.OK {
			t.Fatalf("Spread(%q): %q, error %d, want %q", b, w, e, reversed(x.word))
		}
		if again, e := figure.Backwards(b); again != x.text || e != api.OK {
			t.Fatalf("Backwards(%q): %q, error %d, want %q", b, again, e, x.text)
		}
	}
	for _, l := range allWritten("ab", 7) {
		for _, x := range l {
			check(x)
		}
	}
	r := rand.New(rand.NewPCG(6, 6))
	pieces := slices.Concat(allWritten("abc", 5)...)
	for range 20000 {
		x := written{}
		for range 1 + r.IntN(4) {
			y := pick(r, pieces...)
			x = written{x.text + y.text, x.word + y.word}
		}
		switch r.IntN(3) {
		case 0:
			x = written{"2(" + x.text + ")", x.word + x.word}
		case 1:
			x = written{"<" + x.text + ">", x.word + reversed(x.word)}
		}
		if len(x.word) <= 40 {
			check(x)
		}
	}
}

// F5, by rewriting: texts that differ from an expression by a byte or two.
func TestF5Samples(t *testing.T) {
	r := rand.New(rand.NewPCG(6, 7))
	pieces := slices.Concat(allWritten("abz", 6)...)
	right, wrong := 0, 0
	for range 60000 {
		e := pick(r, pieces...).text + pick(r, pieces...).text + pick(r, pieces...).text
		for range r.IntN(3) {
			at := r.IntN(len(e) + 1)
			e = e[:at] + pick(r, "", "", "a", "2", "9", "1", "0", "(", ")", "<", ">", "2(", "<b>", "9(", " ", "A", "\xff") + e[min(len(e), at+r.IntN(2)):]
		}
		want, ok := spread(e)
		wantError := api.OK
		if !ok {
			wantError = api.ErrWord
			wrong++
		} else {
			right++
		}
		w, f := figure.Spread(e)
		b, g := figure.Backwards(e)
		if w != want || f != wantError || g != wantError || (b == "") != !ok {
			t.Fatalf("Spread and Backwards of %q: %q, %q, errors %d, %d, want %q, %d", e, w, b, f, g, want, wantError)
		}
	}
	if right < 5000 || wrong < 5000 {
		t.Errorf("only %d texts are expressions, %d are not", right, wrong)
	}
}
