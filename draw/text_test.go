package draw_test

import (
	"strconv"
	"testing"

	"strickle/api"
	"strickle/draw"
)

func TestC10Write(t *testing.T) {
	for p := range 12 {
		for _, x := range movesOf(p) {
			want := strconv.Itoa(p) + " up"
			if x.Side > 0 {
				want = strconv.Itoa(p) + " " + []string{"", "east", "south", "west", "north"}[x.Side] + " " + strconv.Itoa(x.Far)
			}
			if s, e := draw.Write(x); s != want || e != api.OK {
				t.Errorf("Write(%v): %q, error %d", x, s, e)
			}
			if y, e := draw.Read(want); y != x || e != api.OK {
				t.Errorf("Read(%q): %v, error %d", want, y, e)
			}
		}
	}
	l := wrongWays()
	for _, n := range wrongNumbers() {
		l = append(l, api.Move{Piece: n}, api.Move{Piece: n, Side: 1, Far: 1})
	}
	for _, x := range l {
		if s, e := draw.Write(x); s != "" || e != api.ErrArg {
			t.Errorf("Write(%v): %q, error %d", x, s, e)
		}
	}
}

func TestC10ReadWrong(t *testing.T) {
	for _, s := range []string{
		"", " ", "0", "up", "0up", "0 ", " up", " 0 up", "0 up ", "0  up", "0\tup", "0 up\n", "0 Up", "0 down", "0 u", "0 upp", "0 up 0", "0 up 1", "0 up up", "00 up", "01 up", "+1 up", "-1 up", "-0 up", "12 up", "1e0 up", "0x1 up", "1_0 up", "٣ up",
		"0 east", "0 east ", "0 east 0", "0 east 8", "0 east -1", "0 east +1", "0 east 01", "0 east 1 ", "0 east  1", "0 east 1 1", "0 east x", "0 eastt 1", "east 1", "0 1", "0 1 1", "0 west 10", "12 west 1", "-1 west 1", "0 north 7 up", "0 WEST 1", "0 south 1.0",
		"99999999999999999999 up", "0 east 99999999999999999999", "4294967296 up", "0 east 4294967297", "\x00 up", "0 \xff 1",
	} {
		if x, e := draw.Read(s); x != (api.Move{}) || e != api.ErrForm {
			t.Errorf("Read(%q): %v, error %d", s, x, e)
		}
	}
}

// P3.10: Read inverts Write, and Write inverts Read: what is near a text is either none, or the text of another move.
func TestP310Texts(t *testing.T) {
	read := 0
	for p := range 12 {
		for _, x := range movesOf(p) {
			s, e := draw.Write(x)
			if y, f := draw.Read(s); y != x || e != api.OK || f != api.OK {
				t.Fatalf("Read(%q): %v, errors %d, %d, want %v", s, y, e, f, x)
			}
			for i := range len(s) + 1 {
				for _, c := range []string{"", "0", "1", "2", "7", " ", "e", "-", "+"} {
					near := []string{s[:i] + c + s[i:]}
					if i < len(s) {
						near = append(near, s[:i]+c+s[i+1:])
					}
					for _, text := range near {
						y, e := draw.Read(text)
						if e == api.ErrForm && y == (api.Move{}) {
							continue
						}
						read++
						if again, f := draw.Write(y); again != text || e != api.OK || f != api.OK {
							t.Fatalf("Read(%q): %v, which Write gives as %q, errors %d, %d", text, y, again, e, f)
						}
					}
				}
			}
		}
	}
	if read < 1000 {
		t.Errorf("only %d texts near others are read", read)
	}
}
