package caliper_test

import (
	"math/rand/v2"
	"regexp"
	"strings"
	"testing"

	"strickle/api"
	"strickle/caliper"
)

func TestH4Write(t *testing.T) {
	for line, x := range map[string]api.Reading{
		"1 0 seen 7":                seen(1, 0, "7"),
		"2 1 bare 200":              bare(2, 1, "200"),
		"4 3 void 2":                void(4, 3, 2),
		"1000000 100000 void 1":     void(1000000, 100000, 1),
		"10 20 void 1000000":        void(10, 20, 1000000),
		"10 20 bare ff.0.a":         bare(10, 20, "ff.0.a"),
		"7 0 seen 0.0.0.0.0.0.0.10": seen(7, 0, "0.0.0.0.0.0.0.10"),
	} {
		if text, e := caliper.Write(x); text != line || e != api.OK {
			t.Errorf("Write(%v): %q, error %d", x, text, e)
		}
		if y, e := caliper.Read(line); y != x || e != api.OK {
			t.Errorf("Read(%q): %v, error %d", line, y, e)
		}
	}
	for _, x := range wrongReadings() {
		if text, e := caliper.Write(x); text != "" || e != api.ErrArg {
			t.Errorf("Write(%v): %q, error %d", x, text, e)
		}
	}
}

func TestH4Read(t *testing.T) {
	for _, line := range []string{
		"", " ", "   ", "1", "1 2", "1 2 seen", "1 2 seen ", "1 2 bare ", "1 2 void ", "1 2  7", "1 2 7", " 2 seen 7", "1  seen 7", " 1 2 seen 7", "1 2 seen 7 ", "1 2 seen 7 7", "1 2 void 3 ", "1 2 void 3 4", "1  2 seen 7", "1 2  seen 7", "1 2 seen  7", "1 2 seen 7\n", "1 2 void 3\n", "\n1 2 seen 7", "1\t2 seen 7", "1 2 seen\t7", "1 2 seen 7\r",
		"1 2 Seen 7", "1 2 SEEN 7", "1 2 see 7", "1 2 seens 7", "1 2 read 7", "1 2 1 7", "1 2 voids 7", "seen 1 2 7", "1 2 7 seen", "1 2 seenbare 7",
		"01 2 seen 7", "1 02 seen 7", "1 00 seen 7", "+1 2 seen 7", "1 +2 seen 7", "1 -0 seen 7", "0x1 2 seen 7", "1_0 2 seen 7", "1. 2 seen 7", "x 2 seen 7", "1 x seen 7", "١ 2 seen 7", "1 2 void 03", "1 2 void +3", "1 2 void x", "1 2 void 3.0", "1 2 void 0x3", "1 2 void a", "1 2 seen 07", "1 2 seen 7.", "1 2 seen 7.0", "1 2 seen .7", "1 2 seen A", "1 2 seen g", "1 2 bare 0.0.0.0.0.0.0.0.1", "1 2 bare 10000000000000000",
		// Readings that are not well-formed.
		"0 2 seen 7", "-1 2 seen 7", "1000001 2 seen 7", "1 -1 seen 7", "1 100001 seen 7", "1 2 seen 0", "1 2 bare 0", "1 2 void 0", "1 2 void -3", "1 2 void 1000001", "99999999999999999999 2 seen 7", "1 99999999999999999999 seen 7", "1 2 void 99999999999999999999", "18446744073709551617 2 seen 7", "1 2 void 18446744073709551617",
	} {
		if x, e := caliper.Read(line); x != (api.Reading{}) || e != api.ErrForm {
			t.Errorf("Read(%q): %v, error %d", line, x, e)
		}
	}
}

// P8.9: Read inverts Write, and the other way round.
func TestP89(t *testing.T) {
	r := rand.New(rand.NewPCG(8, 9))
	form := regexp.MustCompile(`^[1-9][0-9]* (0|[1-9][0-9]*) ((seen|bare) [0-9a-f.]+|void [1-9][0-9]*)$`)
	read := 0
	for _, l := range sheets(200) {
		for _, x := range l {
			x.Id, x.Known = 1+r.IntN(pick(r, 9, 1000000)), r.IntN(pick(r, 9, 100001))
			line, e := caliper.Write(x)
			if y, f := caliper.Read(line); y != x || e != api.OK || f != api.OK || !form.MatchString(line) {
				t.Fatalf("Read(%q): %v, errors %d, %d, want %v", line, y, e, f, x)
			}
			words := strings.Split(line, " ")
			words[r.IntN(4)] = pick(r, "0", "1", "7", "00", "100", "1000000", "1000001", "7.7", "3.0", "a", "seen", "void", "bare")
			line = strings.Join(words, " ")
			y, e := caliper.Read(line)
			if e != api.OK {
				continue
			}
			read++
			if again, e := caliper.Write(y); again != line || e != api.OK {
				t.Fatalf("Write(%v): %q, error %d, want %q", y, again, e, line)
			}
		}
	}
	if read < 100 {
		t.Errorf("only %d lines were read", read)
	}
}
