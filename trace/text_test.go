package trace_test

import (
	"strconv"
	"strings"
	"testing"

	"strickle/api"
	"strickle/solid"
	"strickle/trace"
)

// lines are actions with their lines.
func lines() map[string]api.Action {
	l := map[string]api.Action{
		"cut 1": cutC(), "cut 8000000": cutA(), "cut c000000": cutB(), "cut 0.1": cut(at(0, 0, 1)), "cut 0.0.0.0.0.0.0.8000000000000000": cut(at(7, 7, 7)), "cut 107.0.a": cut(at(0, 0, 0), at(1, 0, 0), at(2, 0, 0), at(0, 1, 0), at(1, 0, 2), at(3, 0, 2)),
		"cut " + solid.Write(full()): {Kind: api.ActCut, Cells: full()},
	}
	for i := range 8 {
		l["fit "+strconv.Itoa(i)] = fit(i)
		l["take "+strconv.Itoa(i)] = take(i)
	}
	return l
}

func TestD12Write(t *testing.T) {
	for want, a := range lines() {
		if s, e := trace.Write(a); s != want || e != api.OK {
			t.Errorf("Write(%x): %q, error %d, want %q", a, s, e, want)
		}
	}
	for _, a := range wrongActions() {
		if s, e := trace.Write(a); s != "" || e != api.ErrArg {
			t.Errorf("Write(%x): %q, error %d", a, s, e)
		}
	}
}

func TestD12Read(t *testing.T) {
	for s, want := range lines() {
		if a, e := trace.Read(s); a != want || e != api.OK {
			t.Errorf("Read(%q): %x, error %d, want %x", s, a, e, want)
		}
	}
}

func TestD12ReadWrong(t *testing.T) {
	for _, s := range []string{
		"", " ", "cut", "cut ", "cut 0", "cut 0.0", "cut 01", "cut 1.0", "cut  1", " cut 1", "cut 1 ", "cut 1\n", "cut 1 1", "cut\t1", "Cut 1", "CUT 1", "cutt 1", "cu 1", "cut1", "cut A", "cut x", "cut -1", "cut +1", "cut 0x1", "cut 1_0", "cut 10000000000000000", "cut .1", "cut 1.", "cut 1..1", "cut 0.0.0.0.0.0.0.0.1", "cut fit 0",
		"fit", "fit ", "fit 8", "fit 9", "fit 10", "fit -1", "fit -0", "fit +1", "fit 00", "fit 01", "fit 1 ", "fit  1", " fit 1", "fit 1\n", "fit 1 1", "fit x", "fit 1x", "fit 1.0", "fit 0x1", "fit 1e0", "fits 1", "Fit 1", "fit1", "fit ١", "fit 99999999999999999999", "fit 4294967297", "fit 18446744073709551617",
		"take", "take ", "take 8", "take -1", "take +1", "take 00", "take 07", "take 7 ", "take  7", "take 7\n", "take x", "Take 1", "taken 1", "take1", "take 99999999999999999999", "take 4294967297",
		"0", "1", "1 cut", "1 1", "2 0", "3 0", "do 1", "fit cut 1", "\x00", "cut \x00", "cut 1\x00", "\xff", "cut \xff",
	} {
		if a, e := trace.Read(s); a != (api.Action{}) || e != api.ErrForm {
			t.Errorf("Read(%q): %x, error %d", s, a, e)
		}
	}
	if a, e := trace.Read("cut " + strings.Repeat("1", 100000)); a != (api.Action{}) || e != api.ErrForm {
		t.Errorf("Read of a long line: %x, error %d", a, e)
	}
}

// P4.8: Read inverts Write, and Write inverts Read: what is near a line is either none, or the line of another action.
func TestP48Texts(t *testing.T) {
	read := 0
	for s, a := range lines() {
		text, e := trace.Write(a)
		if b, f := trace.Read(text); b != a || e != api.OK || f != api.OK {
			t.Fatalf("Read(%q): %x, errors %d, %d, want %x", text, b, e, f, a)
		}
		for i := range len(s) + 1 {
			for _, c := range []string{"", "0", "1", "7", "9", "f", ".", " ", "+", "-", "\n"} {
				near := []string{s[:i] + c + s[i:]}
				if i < len(s) {
					near = append(near, s[:i]+c+s[i+1:])
				}
				for _, text := range near {
					b, e := trace.Read(text)
					if e == api.ErrForm && b == (api.Action{}) {
						continue
					}
					read++
					if again, f := trace.Write(b); again != text || e != api.OK || f != api.OK {
						t.Fatalf("Read(%q): %x, which Write gives as %q, errors %d, %d", text, b, again, e, f)
					}
				}
			}
		}
	}
	if read < 300 {
		t.Errorf("only %d lines near others are read", read)
	}
	for _, h := range append(some(), long()...) {
		for _, a := range h.Acts {
			s, e := trace.Write(a)
			if b, f := trace.Read(s); b != a || e != api.OK || f != api.OK {
				t.Fatalf("Read(%q): %x, errors %d, %d, want %x", s, b, e, f, a)
			}
		}
	}
}
