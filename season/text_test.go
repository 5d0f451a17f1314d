package season_test

import (
	"math/rand/v2"
	"regexp"
	"strings"
	"testing"

	"strickle/api"
	"strickle/season"
	"strickle/solid"
)

func TestG10Write(t *testing.T) {
	for i, want := range []string{"order 1 0 0 1 0 1", "order 1000000 100000 100000 1000000 1000000 0.0.0.0.0.0.0.8000000000000000", "order 500 0 100000 77 1 " + solid.Write(block(8, 8, 8)), "order 10 9 10 100 90 0.0.0.a0"} {
		x := goodOrders()[i]
		if line, e := season.Write(x); line != want || e != api.OK {
			t.Errorf("Write(%v): %q, error %d", x, line, e)
		}
		if y, e := season.Read(want); y != x || e != api.OK {
			t.Errorf("Read(%q): %v, error %d", want, y, e)
		}
	}
	for _, x := range wrongOrders() {
		if line, e := season.Write(x); line != "" || e != api.ErrArg {
			t.Errorf("Write(%v): %q, error %d", x, line, e)
		}
	}
}

func TestG10Read(t *testing.T) {
	for _, line := range []string{
		"", " ", "order", "order ", "order 1", "order 1 2 3 4 5", "order 1 2 3 4 5 ", "order 1 2 3 4 6", "orders 1 2 3 4 5 6", "Order 1 2 3 4 5 6", "1 2 3 4 5 6", " 1 2 3 4 5 6", "order order 1 2 3 4 5 6", "order 1 2 3 4 5 6 7", "order 1 2 3 4 5 6 ", " order 1 2 3 4 5 6", "order  1 2 3 4 5 6", "order 1 2  3 4 5 6", "order 1 2 3 4 5  6", "order 1 2 3 4 5 6\n", "\norder 1 2 3 4 5 6", "order\t1 2 3 4 5 6", "order 1 2 3 4 5\t6", "order 1 2 3 4 5 6\r", "spare 1 2 3 4 5 6",
		"order 01 2 3 4 5 6", "order 1 02 3 4 5 6", "order 1 2 03 4 5 6", "order 1 2 3 04 5 6", "order 1 2 3 4 05 6", "order 1 2 3 4 5 06", "order +1 2 3 4 5 6", "order 1 -0 3 4 5 6", "order 1 +2 3 4 5 6", "order 1 2 3 4 00 6", "order 1 0x2 3 4 5 6", "order 1 2. 3 4 5 6", "order 1 2 3_0 4 5 6", "order x 2 3 4 5 6", "order 1 2 3 4 x 6", "order 1 2 3 4 5 g", "order ١ 2 3 4 5 6", "order 1 2 3 4 5 A", "order 1 2 3 4 5 6.", "order 1 2 3 4 5 6.0", "order 1 2 3 4 5 .6", "order 1 2 3 4 5 0.0.0.0.0.0.0.0.1", "order 1 2 3 4 5 10000000000000000",
		// Orders that are not as the chapter says.
		"order 0 2 3 4 5 6", "order -1 2 3 4 5 6", "order 1000001 2 3 4 5 6", "order 1 -1 3 4 5 6", "order 1 3 2 4 5 6", "order 1 2 100001 4 5 6", "order 1 100001 100001 4 5 6", "order 1 2 3 0 5 6", "order 1 2 3 -4 5 6", "order 1 2 3 1000001 5 6", "order 1 2 3 4 -5 6", "order 1 2 3 4 1000001 6", "order 1 2 3 4 5 0", "order 99999999999999999999 2 3 4 5 6", "order 1 2 3 4 99999999999999999999 6", "order 18446744073709551617 2 3 4 5 6",
	} {
		if x, e := season.Read(line); x != (api.Order{}) || e != api.ErrForm {
			t.Errorf("Read(%q): %v, error %d", line, x, e)
		}
	}
}

// P7.8: Read inverts Write, and the other way round.
func TestP78(t *testing.T) {
	r := rand.New(rand.NewPCG(7, 8))
	form := regexp.MustCompile(`^order [1-9][0-9]*( (0|[1-9][0-9]*)){4} [0-9a-f.]+$`)
	read := 0
	for _, s := range large(20) {
		for _, x := range s.Orders {
			x.Id, x.Size = 1+r.IntN(pick(r, 9, 1000000)), 1+r.IntN(pick(r, 9, 1000000))
			line, e := season.Write(x)
			if y, f := season.Read(line); y != x || e != api.OK || f != api.OK || !form.MatchString(line) {
				t.Fatalf("Read(%q): %v, errors %d, %d, want %v", line, y, e, f, x)
			}
			words := strings.Fields(line)
			words[1+r.IntN(6)] = pick(r, "0", "1", "7", "00", "100", "1000000", "1000001", "7.7", "3.0", "a")
			line = strings.Join(words, " ")
			y, e := season.Read(line)
			if e != api.OK {
				continue
			}
			read++
			if again, e := season.Write(y); again != line || e != api.OK {
				t.Fatalf("Write(%v): %q, error %d, want %q", y, again, e, line)
			}
		}
	}
	if read < 100 {
		t.Errorf("only %d lines were read", read)
	}
}
