package figure_test

import (
	"math/rand/v2"
	"regexp"
	"slices"
	"strconv"
	"strings"
	"testing"

	"strickle/api"
	"strickle/figure"
)

// all has a term of each kind, and remarks, and lines that say nothing.
const all = `# a remark

a = block 0 1 2 8 7 6
b = block 7 7 7 1 1 1
c = join a b
d = less c a
e = meet c d
f = move e -1 -7 0
#g = nothing
g = turn a 23
h = row b 2 0 -7 -1
i = mirror h 2
last-one-9 = spun 2 <ob>
`

func allTerms() []api.Term {
	return []api.Term{
		{Name: "a", Kind: api.TermBlock, Numbers: [6]int{0, 1, 2, 8, 7, 6}},
		{Name: "b", Kind: api.TermBlock, Numbers: [6]int{7, 7, 7, 1, 1, 1}},
		{Name: "c", Kind: api.TermJoin, A: 0, B: 1},
		{Name: "d", Kind: api.TermLess, A: 2, B: 0},
		{Name: "e", Kind: api.TermMeet, A: 2, B: 3},
		{Name: "f", Kind: api.TermMove, A: 4, Numbers: [6]int{-1, -7, 0}},
		{Name: "g", Kind: api.TermTurn, A: 0, Numbers: [6]int{23}},
		{Name: "h", Kind: api.TermRow, A: 1, Numbers: [6]int{2, 0, -7, -1}},
		{Name: "i", Kind: api.TermMirror, A: 7, Numbers: [6]int{2}},
		{Name: "last-one-9", Kind: api.TermSpun, Numbers: [6]int{2}, Word: "<ob>"},
	}
}

func TestF2Parse(t *testing.T) {
	for _, src := range []string{all, strings.TrimSuffix(all, "\n"), "\n\n" + all + "\n#\n\n", "# " + strings.Repeat("x ", 200) + "\n" + all + "#"} {
		if l, f := figure.Parse(src); !slices.Equal(l, allTerms()) || f != (api.Fault{}) {
			t.Errorf("Parse(%q): %v, %v", src, l, f)
		}
	}
	for _, src := range []string{"", "\n", "\n\n\n", "#", "#\n", "# a = block\n#b", "##"} {
		if l, f := figure.Parse(src); len(l) != 0 || f != (api.Fault{}) {
			t.Errorf("Parse(%q): %v, %v", src, l, f)
		}
	}
}

func TestF2ParseSource(t *testing.T) {
	line := "a = block 0 0 0 1 1 1\n"
	for n, want := range map[int]api.Fault{19999: {}, 20000: {}, 20001: {Err: api.ErrLimit}, 100000: {Err: api.ErrLimit}} {
		src := line + "#" + strings.Repeat("x", n-len(line)-1)
		l, f := figure.Parse(src)
		if f != want || (len(l) == 1) != (want.Err == api.OK) {
			t.Errorf("Parse of %d bytes: %v, %v", n, l, f)
		}
		if l, f := figure.Parse(strings.Repeat("\n", n)); len(l) != 0 || f != want {
			t.Errorf("Parse of %d lines: %v, %v", n, l, f)
		}
	}
	if l, f := figure.Parse("?\n" + strings.Repeat("\n", 20000)); len(l) != 0 || f != (api.Fault{Err: api.ErrLimit}) {
		t.Errorf("Parse of too much that is wrong: %v, %v", l, f)
	}
}

// wrongLines are lines behind a block b, with their errors.
func wrongLines() map[api.Errno][]string {
	return map[api.Errno][]string{
		api.ErrForm: {
			" ", "  ", "\t", "\r", "a", "a =", "a = ", "=", " = ", "a = block", "a = join", "a block 0 0 0 1 1 1", "a == block 0 0 0 1 1 1", "a =block 0 0 0 1 1 1", "a= block 0 0 0 1 1 1", "= block 0 0 0 1 1 1", " = block 0 0 0 1 1 1",
			"a = block 0 0 0 1 1", "a = block 0 0 0 1 1 1 1", "a = block 0 0 0 1 1 1 ", " a = block 0 0 0 1 1 1", "a  = block 0 0 0 1 1 1", "a =  block 0 0 0 1 1 1", "a = block  0 0 0 1 1 1", "a = block 0 0 0 1 1  1", "a = block 0 0 0 1 1 1\r", "a = block 0\t0 0 1 1 1", "a = block 0 0 0 1 1 1 #",
			"a = Block 0 0 0 1 1 1", "a = blocks 0 0 0 1 1 1", "a = box 0 0 0 1 1 1", "a =  0 0 0 1 1 1", "a = 0 0 0 1 1 1", "a = ring b", "a = term b 1", "a =  b b",
			"a = block 00 0 0 1 1 1", "a = block 01 0 0 1 1 1", "a = block 0 0 0 01 1 1", "a = block 0 0 0 1 1 001", "a = block +1 0 0 1 1 1", "a = block -0 0 0 1 1 1", "a = block 0 0 0 1 1 1000", "a = block 0 0 0 1 1 -1000", "a = block 0 0 0 1 1 0999", "a = block 0 0 0 1 1 99999999999999999999", "a = block 0 0 0 1 1 -99999999999999999999", "a = block - 0 0 1 1 1", "a = block 0 0 0 1 1 1.", "a = block 0 0 0 1 1 0x1", "a = block 0 0 0 1 1 1e0", "a = block b 0 0 1 1 1", "a = block 0 0 0 1 1 ١", "a = block 0 0 0 1 1 --1", "a = block 1_0 0 0 1 1 1",
			"a = join b", "a = join b b b", "a = join  b", "a = join b ", "a = join", "a = less b", "a = meet b b 0", "a = meet  b b",
			"a = move b 0 0", "a = move b 0 0 0 0", "a = move 0 0 0", "a = move b 0 0 -01", "a = move b 0 0 -00", "a = move b 0 0 x", "a = turn b", "a = turn b 0 0", "a = turn 0", "a = turn b 00", "a = row b 2 0 0", "a = row b 2 0 0 0 0", "a = row 2 0 0 0", "a = mirror b", "a = mirror b 0 0", "a = mirror b x",
			"a = spun", "a = spun 0", "a = spun a", "a = spun 0 ", "a = spun 0  a", "a = spun 0 a a", "a = spun 00 a", "a = spun a 0", "a = spun 0 a ", "a = spun 1000 a",
			// Ahead of names that no term has, terms that are none, and words.
			"a = join x", "a = move x 0 0", "a = move x 0 0 01", "A = block 0 0 0 1 1", "b = turn b", "a = spun 0 2(a )", "a = join x y z",
		},
		api.ErrName: {
			"a = join x b", "a = join b x", "a = join a a", "a = join B b", "a = less b b2", "a = meet 0 b", "a = meet b =", "a = move x 0 0 0", "a = turn a 0", "a = row bb 2 0 0 0", "a = mirror # 0", "a = join b \xff", "a = join c b",
			// Ahead of what Check says.
			"A = join x b", "b = join b x", "a = move x 9 9 9", "a = turn x 24", "a = row x 1 0 0 0", "a = mirror x 3",
		},
		api.ErrArg: {
			"A = join b b", "1 = turn b 0", "-a = block 0 0 0 1 1 1", "= = block 0 0 0 1 1 1", "a# = block 0 0 0 1 1 1", "\xff = block 0 0 0 1 1 1", strings.Repeat("a", 25) + " = join b b",
			"a = block 0 0 0 9 1 1", "a = block 8 0 0 1 1 1", "a = block 0 0 0 0 1 1", "a = block -1 0 0 1 1 1", "a = block 0 0 0 1 1 999", "a = block 0 0 0 1 1 -999",
			"a = move b 8 0 0", "a = move b 0 0 -8", "a = turn b 24", "a = turn b -1", "a = row b 1 0 0 0", "a = row b 9 0 0 0", "a = row b 2 0 0 8", "a = mirror b 3", "a = mirror b -1", "a = spun 8 a", "a = spun -1 a", "a = spun 100 2(a",
			// Ahead of ErrTwice.
			"b = block 0 0 0 9 1 1", "b = spun 8 2(a",
		},
		api.ErrTwice: {"b = block 0 0 0 1 1 1", "b = join b b", "b = turn b 1", "b = spun 0 2(a"},
		api.ErrWord:  {"a = spun 0 2(a", "a = spun 0 A", "a = spun 0 1(a)", "a = spun 0 <>", "a = spun 0 e", "a = spun 0 9(a)", "a = spun 7 aa", "a = spun 0 #", "a = spun 0 \xff", "a = spun 0 0", "a = spun 0 a\t", "a = spun 0 a\r", "a = spun 0 " + strings.Repeat("a", 2000)},
	}
}

func TestF2ParseWrong(t *testing.T) {
	for e, lines := range wrongLines() {
		for _, line := range lines {
			for _, x := range []struct {
				ahead string
				line  int
			}{{"b = block 0 0 0 1 1 1\n", 2}, {"\n#\n\nb = block 0 0 0 1 1 1\n\n# b\n", 7}} {
				for _, after := range []string{"", "\n", "\n\n", "\nc = join b b\n", "\nA\n", "\nc = join x x"} {
					if l, f := figure.Parse(x.ahead + line + after); len(l) != 0 || f != (api.Fault{Err: e, Line: x.line}) {
						t.Errorf("Parse(%q): %v, %v, want error %d in line %d", x.ahead+line+after, l, f, e, x.line)
					}
				}
			}
		}
	}
}

func TestF2ParseTooManyTerms(t *testing.T) {
	src := figure.Print(blocks(40))
	if l, f := figure.Parse("#\n" + src); !slices.Equal(l, blocks(40)) || f != (api.Fault{}) {
		t.Errorf("Parse of 40 terms: %d of them, %v", len(l), f)
	}
	for line, want := range map[string]api.Errno{"c = join b0 b39": api.ErrLimit, "C = join b0 b39": api.ErrLimit, "b0 = spun 9 e": api.ErrLimit, "c = join b0 b40": api.ErrName, "c = join b0": api.ErrForm} {
		if l, f := figure.Parse("#\n" + src + line); len(l) != 0 || f != (api.Fault{Err: want, Line: 42}) {
			t.Errorf("Parse of 40 terms and %q: %v, %v", line, l, f)
		}
	}
}

func TestF2Print(t *testing.T) {
	want := regexp.MustCompile(`(?m)^(#.*)?\n`).ReplaceAllString(all, "")
	if s := figure.Print(allTerms()); s != want {
		t.Errorf("Print: %q, want %q", s, want)
	}
	for _, l := range [][]api.Term{nil, {}} {
		if s := figure.Print(l); s != "" {
			t.Errorf("Print(%v): %q", l, s)
		}
	}
	if s := figure.Print(parsed(t, ringText)); s != ringText {
		t.Errorf("Print: %q", s)
	}
	if s := figure.Print(blocks(41)); s != "" {
		t.Errorf("Print of too many terms: %q", s)
	}
}

// patterns are the patterns of lines, by the kinds of terms.
func patterns() []*regexp.Regexp {
	number := ` (0|-?[1-9][0-9]{0,2})`
	name := ` ([^ ]+)`
	var l []*regexp.Regexp
	for _, form := range []string{"block" + strings.Repeat(number, 6), "join" + name + name, "less" + name + name, "meet" + name + name, "move" + name + strings.Repeat(number, 3), "turn" + name + number, "row" + name + strings.Repeat(number, 4), "mirror" + name + number, "spun" + number + name} {
		l = append(l, regexp.MustCompile(`^[^ ]+ = `+form+`$`))
	}
	return l
}

// parse reads a drawing by patterns of the forms.
func parse(src string, patterns []*regexp.Regexp) ([]api.Term, api.Fault) {
	var l []api.Term
	for i, line := range strings.Split(src, "\n") {
		if line == "" || line[0] == '#' {
			continue
		}
		fault := func(e api.Errno) ([]api.Term, api.Fault) { return nil, api.Fault{Err: e, Line: i + 1} }
		kind := slices.IndexFunc(patterns, func(p *regexp.Regexp) bool { return p.MatchString(line) })
		if kind < 0 {
			return fault(api.ErrForm)
		}
		words := strings.Split(line, " ")
		t := api.Term{Name: words[0], Kind: uint8(kind + 1)}
		words = words[3:]
		for k := range len(needs(t)) {
			at := slices.IndexFunc(l, func(u api.Term) bool { return u.Name == words[k] })
			if at < 0 {
				return fault(api.ErrName)
			}
			*[]*int{&t.A, &t.B}[k] = at
		}
		words = words[len(needs(t)):]
		if t.Kind == api.TermSpun {
			t.Word = words[1]
			words = words[:1]
		}
		for k, word := range words {
			t.Numbers[k], _ = strconv.Atoi(word)
		}
		l = append(l, t)
		if _, e := check(l); e != api.OK {
			return fault(e)
		}
	}
	return l, api.Fault{}
}

// F2, by patterns of the forms: texts, and those that differ from one by a byte or three.
func TestF2ParseSamples(t *testing.T) {
	r := rand.New(rand.NewPCG(6, 2))
	found, forms := map[api.Errno]int{}, patterns()
	for range 8000 {
		src := figure.Print(drawing(r, 1+r.IntN(5), false))
		for range r.IntN(4) {
			at := r.IntN(len(src) + 1)
			src = src[:at] + pick(r, "", "", " ", "\n", "#", "0", "1", "9", "-", "a", "e", "t", "t0", "(", ")", "<", ">", "=", "\xff", "\r", " 1", "block", "\nt0 = spun 0 a\n", "\nt1 = turn t0 0\n") + src[min(len(src), at+r.IntN(3)):]
		}
		want, fault := parse(src, forms)
		if l, f := figure.Parse(src); !slices.Equal(l, want) || f != fault {
			t.Fatalf("Parse(%q): %v, %v, want %v, %v", src, l, f, want, fault)
		}
		found[fault.Err]++
	}
	for _, e := range []api.Errno{api.OK, api.ErrForm, api.ErrName, api.ErrArg, api.ErrTwice, api.ErrWord} {
		if found[e] < 10 {
			t.Errorf("only %d texts with error %d", found[e], e)
		}
	}
}

// P6.2: Parse inverts Print; what is read is printed as a text of the same drawing, in which each line is one of the source.
func TestP62Texts(t *testing.T) {
	r := rand.New(rand.NewPCG(6, 3))
	for range 2000 {
		l := drawing(r, r.IntN(41), false)
		src := figure.Print(l)
		if again, f := figure.Parse(src); !slices.Equal(again, l) || f != (api.Fault{}) {
			t.Fatalf("Parse(%q): %v, %v, want %v", src, again, f, l)
		}
		loose := strings.TrimSuffix(strings.ReplaceAll(src, "\nt", pick(r, "\n\nt", "\n# x\nt", "\nt")), "\n")
		again, f := figure.Parse(loose)
		if f != (api.Fault{}) || figure.Print(again) != src {
			t.Fatalf("Print of Parse(%q): %q, %v, want %q", loose, figure.Print(again), f, src)
		}
	}
	long := blocks(40)
	for i := range long {
		long[i] = api.Term{Name: strings.Repeat("n", 22) + strconv.Itoa(10+i), Kind: api.TermSpun, Word: strings.Repeat("<", 2) + "ab" + strings.Repeat(">", 2)}
	}
	if l, f := figure.Parse(figure.Print(long)); !slices.Equal(l, long) || f != (api.Fault{}) {
		t.Errorf("Parse of long names: %v, %v", l, f)
	}
}
