package figure_test

import (
	"math"
	"math/rand/v2"
	"strings"
	"testing"

	"strickle/api"
	"strickle/figure"
	"strickle/solid"
)

func TestF9Disc(t *testing.T) {
	for letter, want := range map[byte]string{'a': "1818000000", 'b': "183c3c180000", 'c': "3c7e7e7e7e3c00", 'd': "3c7effffffff7e3c", 'o': "0"} {
		if s, e := figure.Disc(letter); solid.Write(s) != want || e != api.OK {
			t.Errorf("Disc(%c): %s, error %d, want %s", letter, solid.Write(s), e, want)
		}
	}
	for c := range 256 {
		want, ok := cellsOf(byte(c))
		s, e := figure.Disc(byte(c))
		if !ok {
			if s != (api.Solid{}) || e != api.ErrWord {
				t.Errorf("Disc(%q): %v, error %d", byte(c), s, e)
			}
			continue
		}
		if solid.Count(s) != len(want) || e != api.OK {
			t.Errorf("Disc(%q): %v, error %d", byte(c), s, e)
		}
		for _, cell := range solid.Cells(s) {
			if cell.Z != 0 || !want[[2]int{cell.X, cell.Y}] {
				t.Errorf("Disc(%q) has the cell %v", byte(c), cell)
			}
		}
	}
}

// spinnable yields words of the letters that have discs: all with at most so many letters.
func spinnable(most int, yield func(string)) {
	var more func(word string)
	more = func(word string) {
		if word != "" {
			yield(word)
		}
		for _, letter := range "abcdo" {
			if len(word) < most {
				more(word + string(letter))
			}
		}
	}
	more("")
}

// spun checks Spun, and Profile of it.
func spun(t *testing.T, word string, z int) {
	t.Helper()
	want, ok := spunOf(word, z)
	wantError := api.OK
	if !ok {
		wantError = api.ErrOut
	}
	s, e := figure.Spun(word, z)
	if s != want || e != wantError {
		t.Fatalf("Spun(%q, %d): %v, error %d, want %v, %d", word, z, s, e, want, wantError)
	}
	if !ok {
		return
	}
	bare := strings.Trim(word, "o")
	at := z + strings.Index(word, bare)
	if bare == "" {
		at = 0
	}
	if w, z, ok := figure.Profile(s); w != bare || z != at || ok != (bare != "") {
		t.Fatalf("Profile of %q, %d: %q, %d, %v, want %q, %d", word, z, w, z, ok, bare, at)
	}
}

// F9, F10: all words of at most 4 letters from all planes on, and longer ones.
func TestF9Spun(t *testing.T) {
	spinnable(4, func(word string) {
		for z := range 8 {
			spun(t, word, z)
		}
	})
	r := rand.New(rand.NewPCG(6, 14))
	for range 5000 {
		word := ""
		for range 1 + r.IntN(10) {
			word += pick(r, "a", "b", "c", "d", "o", "o")
		}
		spun(t, word, r.IntN(8))
	}
}

func TestF9SpunWrong(t *testing.T) {
	for want, l := range map[api.Errno][]struct {
		word string
		z    int
	}{
		api.ErrArg: {
			{"", 0}, {"A", 0}, {"a b", 0}, {"2(a)", 0}, {"<a>", 0}, {"a0", 0}, {strings.Repeat("a", 41), 0}, {"\xff", 0}, {"é", 0}, {"eA", 0}, {"", -1}, {"A", 8},
			{"a", -1}, {"a", 8}, {"a", math.MinInt}, {"a", math.MaxInt}, {"o", 8},
			// Ahead of the other errors.
			{"e", 8}, {"e", -1}, {"aaaaaaaaa", 8}, {strings.Repeat("e", 41), 0},
		},
		api.ErrWord: {{"e", 0}, {"abx", 0}, {"xab", 0}, {"n", 7}, {"p", 0}, {"z", 0}, {"aae", 6}, {"aaaaaaaae", 0}, {"eaaaaaaaa", 0}, {strings.Repeat("a", 39) + "e", 7}},
		api.ErrOut:  {{"aaaaaaaaa", 0}, {"aa", 7}, {"ooooooooo", 0}, {"oo", 7}, {"abcd", 5}, {strings.Repeat("a", 40), 0}},
	} {
		for _, x := range l {
			if s, e := figure.Spun(x.word, x.z); s != (api.Solid{}) || e != want {
				t.Errorf("Spun(%q, %d): %v, error %d, want %d", x.word, x.z, s, e, want)
			}
		}
	}
}

func TestF10Profile(t *testing.T) {
	for text, want := range map[string]struct {
		word string
		z    int
		ok   bool
	}{
		"183c3c180000.1818000000": {"ba", 0, true}, "0.0.1818000000": {"a", 2, true}, "1818000000.0.0.1818000000": {"aooa", 0, true}, "0.0.0.0.0.0.0.3c7effffffff7e3c": {"d", 7, true},
		"70507": {}, "0": {}, "1": {}, "ffffffffffffffff": {}, "1818000001": {}, "1808000000": {}, "1818000000.1": {}, "1.1818000000": {}, "0.1818000000.18.1818000000": {}, "1818000000.0.0.0.0.0.0.8000000000000000": {},
	} {
		if w, z, ok := figure.Profile(read(t, text)); w != want.word || z != want.z || ok != want.ok {
			t.Errorf("Profile(%s): %q, %d, %v, want %v", text, w, z, ok, want)
		}
	}
}

// F10: of solids that differ from a spun one by cells, or are none at all, only those that are spun have a profile.
func TestF10Samples(t *testing.T) {
	r := rand.New(rand.NewPCG(6, 15))
	known := map[api.Solid]bool{}
	spinnable(5, func(word string) {
		s, ok := spunOf(word, 0)
		for range 4 {
			if ok {
				known[s] = word != strings.Repeat("o", len(word))
			}
			s, ok = api.Solid{0, s[0], s[1], s[2], s[3], s[4], s[5], s[6]}, ok && s[7] == 0
		}
	})
	none := 0
	for s, is := range known {
		if r.IntN(4) > 0 {
			continue
		}
		if r.IntN(2) == 0 {
			s[r.IntN(8)] ^= 1 << r.IntN(64)
			is = false
			none++
		}
		word, z, ok := figure.Profile(s)
		if again, _ := spunOf(word, z); ok != is || ok && again != s {
			t.Fatalf("Profile(%v): %q, %d, %v, want %v", s, word, z, ok, is)
		}
	}
	if none < 500 {
		t.Errorf("only %d solids have no profile", none)
	}
}

// P6.8: spun solids are the same when they are turned by a quarter, and when they are mirrored sideways.
func TestP68Spun(t *testing.T) {
	spinnable(4, func(word string) {
		for z := range 8 - len(word) + 1 {
			s, e := figure.Spun(word, z)
			turned, f := solid.Turned(s, 1)
			east, g := solid.Mirrored(s, 0)
			south, h := solid.Mirrored(s, 1)
			if turned != s || east != s || south != s || e != api.OK || f != api.OK || g != api.OK || h != api.OK {
				t.Fatalf("Spun(%q, %d): %v, turned %v, mirrored %v, %v", word, z, s, turned, east, south)
			}
			bare := strings.Trim(word, "o")
			if w, _, ok := figure.Profile(s); w != bare || ok != (bare != "") {
				t.Fatalf("Profile of %q: %q, %v", word, w, ok)
			}
		}
	})
}
