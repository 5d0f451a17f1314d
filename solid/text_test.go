package solid_test

import (
	"math"
	"strings"
	"testing"

	"strickle/api"
	"strickle/solid"
)

// texts are solids and how they are written.
func texts() map[string]api.Solid {
	return map[string]api.Solid{
		"0":                     {},
		"70507":                 ring(),
		"107":                   ell(),
		"107.1":                 with(ell(), at(0, 0, 1)),
		"0.1":                   {0, 1},
		"0.0.0.0.0.0.0.1":       {7: 1},
		"1.0.0.0.0.0.0.1":       {0: 1, 7: 1},
		"1.0.a":                 {1, 0, 10},
		"1e.e1":                 {0x1e, 0xe1},
		"abcdef.9876543210":     {0xabcdef, 0x9876543210},
		"ffffffffffffffff":      {math.MaxUint64},
		"0.8000000000000000":    {0, 1 << 63},
		"7fffffffffffffff.0.10": {math.MaxInt64, 0, 16},
		"ffffffffffffffff.ffffffffffffffff.ffffffffffffffff.ffffffffffffffff.ffffffffffffffff.ffffffffffffffff.ffffffffffffffff.ffffffffffffffff": full(),
	}
}

func TestB13Write(t *testing.T) {
	for want, x := range texts() {
		if s := solid.Write(x); s != want {
			t.Errorf("Write(%x): %q, want %q", x, s, want)
		}
	}
}

func TestB13Read(t *testing.T) {
	for s, want := range texts() {
		if x, e := solid.Read(s); x != want || e != api.OK {
			t.Errorf("Read(%q): %x, error %d, want %x", s, x, e, want)
		}
	}
	for _, s := range []string{
		"", ".", "..", "0.", ".0", ".1", "1.", "1..1", "1.0", "107.0", "107.0.0", "0.0", "0.0.0.0.0.0.0.0", "1.1.0", "00", "01", "0107", "1.01", "1.00", "00.1", "A", "aB", "F", "0x1", "0X1", "x", "g", "1g", "-1", "+1", "-0", "1.-1", "1.+1",
		" ", " 1", "1 ", "1. 1", "1 .1", "1\n", "\n", "\x00", "1\x00", "1_0", "1,1", "1/1", "1:1", "\u0661", "\uff11", "\xff", "1.\xff", "0b1", "0o1",
		"10000000000000000", "1ffffffffffffffff", "0ffffffffffffffff", "1.10000000000000000", "18446744073709551616",
		"1.1.1.1.1.1.1.1.1", "0.0.0.0.0.0.0.0.1", "1.1.1.1.1.1.1.1.0", "1.1.1.1.1.1.1.1.", "1.1.1.1.1.1.1.0",
		strings.Repeat("f", 1000), strings.Repeat("0", 1000), strings.Repeat(".", 100000), strings.Repeat("1.", 100000) + "1",
	} {
		x, e := solid.Read(s)
		if x != (api.Solid{}) || e != api.ErrForm {
			t.Errorf("Read(%.40q): %x, error %d", s, x, e)
		}
	}
}

// P2.9: Read inverts Write.
func TestP29Texts(t *testing.T) {
	for _, x := range many() {
		s := solid.Write(x)
		if y, e := solid.Read(s); y != x || e != api.OK {
			t.Errorf("Read(%q): %x, error %d, want %x", s, y, e, x)
		}
	}
}

// P2.9: Write inverts Read: of all short texts just those are read that Write writes.
func TestP29AllTexts(t *testing.T) {
	letters := ".01afgA- "
	l := []string{""}
	for from := 0; len(l[from]) < 6; from++ {
		for _, c := range letters {
			l = append(l, l[from]+string(c))
		}
	}
	read := 0
	for _, s := range l {
		x, e := solid.Read(s)
		if e == api.ErrForm {
			continue
		}
		read++
		if back := solid.Write(x); e != api.OK || back != s {
			t.Fatalf("Read(%q): %x, error %d, but its text is %q", s, x, e, back)
		}
	}
	if want := written(6, true); read != want {
		t.Errorf("%d texts are read, want %d", read, want)
	}
}

// written returns how many texts of at most n letters are written of the digits 0, 1, a and f: those behind a point end with a plane that is not 0.
func written(n int, first bool) int {
	count := 0
	if first && n > 0 {
		count = 1 // 0
	}
	for digits := 1; digits <= n; digits++ {
		numbers := 3 // without a leading zero
		for range digits - 1 {
			numbers *= 4
		}
		count += numbers * (1 + written(n-digits-1, false))
	}
	if n > 1 {
		count += written(n-2, false) // 0 and a point
	}
	return count
}
