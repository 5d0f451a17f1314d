package plank_test

import (
	"math"
	"math/rand/v2"
	"slices"
	"strconv"
	"strings"
	"testing"

	"strickle/api"
	"strickle/plank"
)

// words are all nodes that have a text, with it.
func words() map[string]api.Node {
	l := map[string]api.Node{".": waste()}
	for i := range 12 {
		l["p"+strconv.Itoa(i)] = plain(i)
		l["t"+strconv.Itoa(i)] = turned(i)
	}
	for i := 1; i < 16; i++ {
		l["a"+strconv.Itoa(i)] = across(i)
		l["l"+strconv.Itoa(i)] = along(i)
	}
	return l
}

// noWords are nodes that have no text.
func noWords() []api.Node {
	l := []api.Node{{Kind: 5}, {Kind: 5, At: 1}, {Kind: 46}, {Kind: 255, At: 1}, across(0), along(0), across(16), along(16), plain(12), turned(12), {Kind: 0, At: 1}}
	for kind := range uint8(7) {
		l = append(l, api.Node{Kind: kind, At: -1}, api.Node{Kind: kind, At: 100}, api.Node{Kind: kind, At: math.MinInt}, api.Node{Kind: kind, At: math.MaxInt})
	}
	return l
}

func TestE11Write(t *testing.T) {
	for want, n := range words() {
		for _, x := range []struct {
			p    []api.Node
			want string
		}{{[]api.Node{n}, want}, {[]api.Node{across(3), n}, "a3 " + want}, {[]api.Node{n, waste(), n}, want + " . " + want}, {slices.Repeat([]api.Node{n}, 600), strings.Repeat(want+" ", 599) + want}} {
			if s, e := plank.Write(x.p); s != x.want || e != api.OK {
				t.Errorf("Write(%v): %q, error %d", x.p, s, e)
			}
			if p, e := plank.Read(x.want); !slices.Equal(p, x.p) || e != api.OK {
				t.Errorf("Read(%q): %v, error %d", x.want, p, e)
			}
		}
	}
	for _, p := range [][]api.Node{nil, {}} {
		if s, e := plank.Write(p); s != "" || e != api.OK {
			t.Errorf("Write(%v): %q, error %d", p, s, e)
		}
	}
	if p, e := plank.Read(""); len(p) != 0 || e != api.OK {
		t.Errorf("Read of nothing: %v, error %d", p, e)
	}
}

func TestE11WriteWrong(t *testing.T) {
	for _, n := range noWords() {
		for _, p := range [][]api.Node{{n}, {waste(), n}, {n, across(1)}, append(slices.Repeat([]api.Node{waste()}, 599), n),
			// Of nodes that are none and too many of them, the former is named first.
			append(slices.Repeat([]api.Node{waste()}, 700), n), slices.Repeat([]api.Node{n}, 601)} {
			if s, e := plank.Write(p); s != "" || e != api.ErrArg {
				t.Errorf("Write(%v): %q, error %d", p, s, e)
			}
		}
	}
	for _, n := range []int{601, 10000} {
		if s, e := plank.Write(slices.Repeat([]api.Node{plain(11)}, n)); s != "" || e != api.ErrLimit {
			t.Errorf("Write of %d nodes: %q, error %d", n, s, e)
		}
	}
}

func TestE11ReadWrong(t *testing.T) {
	for _, s := range []string{
		" ", "  ", "\n", "a3  p0", " a3", "a3 ", "a3\n", "a3\tp0", "a3\np0", "a3, p0", "a3,p0", "a3p0", "..", ".0", ".1", "0", "3", "p", "t", "a", "l", "p12", "t12", "p-1", "p-0", "p+1", "p00", "p01", "p011", "a0", "l0", "a16", "l16", "a00", "a01", "a015", "a1.", "a1.0", "a 3", "p0x", "P0", "A3", "L3", "T0", "x1", "w0", "q0", "p0x1", "p1_0", "p٣", "p\x00", "\x00", "\xff", "é", ". .  .", "a3 p0 q1", "a3 p0 .\r", ".\u00a0.",
		"a18446744073709551619", "p4294967296", "a99999999999999999999", "p-9223372036854775808", strings.Repeat(". ", 600) + ".", strings.Repeat("p11 ", 100000) + ".", strings.Repeat(".", 100000), strings.Repeat(" ", 100000), strings.Repeat("9", 100000),
	} {
		if p, e := plank.Read(s); len(p) != 0 || e != api.ErrForm {
			t.Errorf("Read(%.60q): %v, error %d", s, p, e)
		}
	}
}

// P5.10: Read inverts Write, and Write inverts Read: what is near a text is either none, or the text of other nodes.
func TestP510Texts(t *testing.T) {
	r := rand.New(rand.NewPCG(5, 13))
	read, wrong := 0, 0
	for _, s := range samples(60, 12, 6, 9) {
		p := wide(r, s, 1+r.IntN(16), 1+r.IntN(16))
		text, e := plank.Write(p)
		if q, f := plank.Read(text); !slices.Equal(q, p) || e != api.OK || f != api.OK {
			t.Fatalf("Read(%q): %v, errors %d, %d, want %v", text, q, e, f, p)
		}
		for range 200 {
			i := r.IntN(len(text) + 1)
			near := text[:i] + []string{"", "0", "1", ".", "p", "t", "a", "l", " ", "-", "+"}[r.IntN(11)] + text[min(len(text), i+r.IntN(2)):]
			q, e := plank.Read(near)
			if e == api.ErrForm && len(q) == 0 {
				wrong++
				continue
			}
			read++
			if again, f := plank.Write(q); again != near || e != api.OK || f != api.OK {
				t.Fatalf("Read(%q): %v, which Write gives as %q, errors %d, %d", near, q, again, e, f)
			}
		}
	}
	if read < 1000 || wrong < 1000 {
		t.Errorf("only %d texts near others are read, %d not", read, wrong)
	}
}
