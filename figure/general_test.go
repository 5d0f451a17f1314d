package figure_test

import (
	"math"
	"math/rand/v2"
	"slices"
	"strings"
	"testing"

	"strickle/api"
	"strickle/figure"
	"strickle/solid"
)

// P6.1: the chapter's table of examples, of drawings.
func TestP61ExamplesOfDrawings(t *testing.T) {
	l := parsed(t, ringText)
	if s, i, e := figure.Compile(l); solid.Write(s) != "70507" || i != 0 || e != api.OK {
		t.Errorf("Compile: %s, %d, error %d", solid.Write(s), i, e)
	}
	far := parsed(t, ringText+"two = row ring 2 0 0 2\nfar = move two 0 0 6\n")
	if values, i, e := figure.Values(far); len(values) != 0 || i != 4 || e != api.ErrOut {
		t.Errorf("Values: %v, %d, error %d", values, i, e)
	}
	if u, e := figure.Uses(far, 3); !slices.Equal(u, []int{0, 1, 2, 3}) || e != api.OK {
		t.Errorf("Uses: %v, error %d", u, e)
	}
	lean, e := figure.Lean(parsed(t, ringText+"b = turn base 1"))
	want := []api.Term{{Name: "base", Kind: api.TermBlock, Numbers: [6]int{0, 0, 0, 3, 3, 1}}, {Name: "b", Kind: api.TermTurn, Numbers: [6]int{1}}}
	if !slices.Equal(lean, want) || e != api.OK {
		t.Errorf("Lean: %v, error %d", lean, e)
	}
	for src, want := range map[string]api.Errno{"a = block 0 0 0 9 1 1": api.ErrArg, "a = join b b": api.ErrName, "a = block 0 0 0 01 1 1": api.ErrForm, "a = spun 0 2(a": api.ErrWord} {
		if l, f := figure.Parse(src); len(l) != 0 || f != (api.Fault{Err: want, Line: 1}) {
			t.Errorf("Parse(%q): %v, %v", src, l, f)
		}
	}
}

// P6.1: the chapter's table of examples, of words.
func TestP61ExamplesOfWords(t *testing.T) {
	for e, want := range map[string]string{"2(ab)c": "ababc", "<ab>": "abba", "3(<a>)": "aaaaaa"} {
		if w, f := figure.Spread(e); w != want || f != api.OK {
			t.Errorf("Spread(%q): %q, error %d", e, w, f)
		}
	}
	for _, e := range []string{"1(a)", "<>"} {
		if w, f := figure.Spread(e); w != "" || f != api.ErrWord {
			t.Errorf("Spread(%q): %q, error %d", e, w, f)
		}
	}
	if b, e := figure.Backwards("ab2(cd)<ef>"); b != "<ef>2(dc)ba" || e != api.OK {
		t.Errorf("Backwards: %q, error %d", b, e)
	}
	for word, want := range map[string]string{"aaaaaaaa": "8(a)", "abab": "abab", "ababab": "3(ab)", "abccba": "<abc>", "abba": "<ab>", "aaaa": "4(a)"} {
		if e := shortest(t, word); e != want {
			t.Errorf("Shortest(%q): %q", word, e)
		}
	}
	if l, e := figure.Bounds("abab"); !slices.Equal(l, []int{1, 2, 3, 4, 1, 2, 3, 1, 2, 1}) || e != api.OK {
		t.Errorf("Bounds: %v, error %d", l, e)
	}
	for _, x := range []struct {
		l    []int
		want bool
	}{{[]int{1, 2, 1}, true}, {[]int{1, 3, 1}, false}, {[]int{0, 0, -5}, false}} {
		if ok, e := figure.CheckBounds("ab", x.l); ok != x.want || e != api.OK {
			t.Errorf("CheckBounds(%v): %v, error %d", x.l, ok, e)
		}
	}
}

// P6.1: the chapter's table of examples, of profiles and blocks.
func TestP61ExamplesOfProfiles(t *testing.T) {
	b, e := figure.Disc('b')
	ba, f := figure.Spun("ba", 0)
	if solid.Write(b) != "183c3c180000" || solid.Write(ba) != "183c3c180000.1818000000" || e != api.OK || f != api.OK {
		t.Errorf("Disc and Spun: %s, %s, errors %d, %d", solid.Write(b), solid.Write(ba), e, f)
	}
	if w, z, ok := figure.Profile(ba); w != "ba" || z != 0 || !ok {
		t.Errorf("Profile: %q, %d, %v", w, z, ok)
	}
	if w, z, ok := figure.Profile(read(t, "70507")); w != "" || z != 0 || ok {
		t.Errorf("Profile: %q, %d, %v", w, z, ok)
	}
	if l, e := figure.Drawn(ba); figure.Print(l) != "p0 = spun 0 ba\n" || e != api.OK {
		t.Errorf("Drawn: %v, error %d", l, e)
	}
	ell := read(t, "107")
	if l := figure.Blocks(ell); !slices.Equal(l, []api.Box{boxOf(0, 0, 0, 2, 0, 0), boxOf(0, 1, 0, 0, 1, 0)}) {
		t.Errorf("Blocks: %v", l)
	}
	if l, e := figure.Drawn(ell); figure.Print(l) != "p0 = block 0 0 0 3 1 1\np1 = block 0 1 0 1 1 1\np2 = join p0 p1\n" || e != api.OK {
		t.Errorf("Drawn: %v, error %d", l, e)
	}
}

// callAll calls each function, with arguments that may be wrong, and returns nothing: it must end.
func callAll(l []api.Term, i int, text, other string, numbers []int, s api.Solid) {
	figure.Check(l)
	figure.Parse(text)
	figure.Print(l)
	figure.Values(l)
	figure.Compile(l)
	figure.Uses(l, i)
	figure.Lean(l)
	figure.Spread(text)
	figure.Backwards(text)
	figure.Length(text)
	figure.Shortest(text)
	figure.Bounds(text)
	figure.CheckBounds(text, numbers)
	figure.CheckShortest(text, other, numbers)
	figure.Disc(byte(i))
	figure.Spun(text, i)
	figure.Profile(s)
	figure.Blocks(s)
	figure.Drawn(s)
}

// P6.1 with rule R1: all functions end, and do not panic, whatever their arguments are.
func TestP61AnyArguments(t *testing.T) {
	r := rand.New(rand.NewPCG(6, 18))
	bytes := func(n int) string {
		b := make([]byte, n)
		for i := range b {
			b[i] = pick(r, byte(r.IntN(256)), "ab29()<> \n#="[r.IntN(12)])
		}
		return string(b)
	}
	texts := slices.Concat(wrongExpressions(), noWords(), []string{all, ringText})
	for range 3000 {
		var l []api.Term
		for range r.IntN(4) {
			l = append(l, api.Term{Name: pick(r, "a", "b", bytes(3)), Kind: uint8(r.IntN(12)), A: odd(r), B: odd(r), Numbers: [6]int{odd(r), odd(r), odd(r), odd(r), odd(r), odd(r)}, Word: pick(r, "", "a", bytes(5))})
		}
		l = append(drawing(r, 1+r.IntN(3), false), l...)
		text := pick(r, bytes(r.IntN(12)), pick(r, texts...), pick(r, "a", "ab", "abba"))
		var numbers []int
		for range r.IntN(12) {
			numbers = append(numbers, odd(r))
		}
		callAll(l, odd(r), text, bytes(r.IntN(6)), numbers, api.Solid{r.Uint64(), 0, r.Uint64()})
	}
	callAll(make([]api.Term, 100000), math.MinInt, strings.Repeat("\n", 1<<20), strings.Repeat("<", 1<<20), make([]int, 1<<20), api.Solid{})
	callAll(nil, math.MaxInt, strings.Repeat("(", 1<<20), strings.Repeat("9(", 1<<20), nil, api.Solid{})
}

// P6.1 with rule R3: arguments stay as they are, also behind their ends.
func TestP61ArgumentsStay(t *testing.T) {
	r := rand.New(rand.NewPCG(6, 19))
	for range 100 {
		memory := drawing(r, 10, true)
		bounds, _ := figure.Bounds("abba")
		numbers := append(slices.Clone(bounds), 7, 7)
		kept, keptNumbers := slices.Clone(memory), slices.Clone(numbers)
		callAll(memory[:8], r.IntN(8), "abba", "<ab>", numbers[:10], api.Solid{1, 2, 3})
		if !slices.Equal(memory, kept) || !slices.Equal(numbers, keptNumbers) {
			t.Fatalf("the arguments are %v, %v now", memory, numbers)
		}
	}
}

// spoil writes over a list and behind its end.
func spoil[T any](l []T, with T) {
	l = l[:cap(l)]
	for i := range l {
		l[i] = with
	}
}

// P6.1 with rules R3 and R4: what is written into a result changes no argument and no result of a later call.
func TestP61NewMemory(t *testing.T) {
	r := rand.New(rand.NewPCG(6, 20))
	for range 100 {
		l := drawing(r, 8, true)
		kept := slices.Clone(l)
		s := api.Solid{r.Uint64() & 0xf0f, 3}
		for range 2 {
			values, _, e := figure.Values(l)
			want, _, _ := valuesOf(kept)
			lean, f := figure.Lean(l)
			uses, g := figure.Uses(l, 7)
			if !slices.Equal(values, want) || !slices.Equal(uses, resting(kept, 7)) || len(lean) != len(uses) || e != api.OK || f != api.OK || g != api.OK {
				t.Fatalf("Values, Lean, Uses of %s: %v, %v, %v, errors %d, %d, %d", figure.Print(kept), values, lean, uses, e, f, g)
			}
			again := parsed(t, figure.Print(l))
			boxes1, drawn, bounds := figure.Blocks(s), first(figure.Drawn(s)), first(figure.Bounds("abab"))
			if !slices.Equal(again, kept) || !slices.Equal(boxes1, boxes(s)) || len(drawn) == 0 || drawn[0].Name != "p0" || !slices.Equal(bounds, []int{1, 2, 3, 4, 1, 2, 3, 1, 2, 1}) {
				t.Fatalf("Parse, Blocks, Drawn, Bounds: %v, %v, %v, %v", again, boxes1, drawn, bounds)
			}
			spoil(values, api.Solid{9, 9, 9})
			spoil(lean, api.Term{Name: "?"})
			spoil(uses, -1)
			spoil(again, api.Term{Name: "?"})
			spoil(boxes1, boxOf(9, 9, 9, 9, 9, 9))
			spoil(drawn, api.Term{Name: "?"})
			spoil(bounds, -1)
		}
		if !slices.Equal(l, kept) {
			t.Fatalf("the drawing is %v now", l)
		}
	}
}

// first returns a result whose call must end well.
func first[T any](x T, e api.Errno) T {
	if e != api.OK {
		panic(e)
	}
	return x
}
