package rule_test

import (
	"strings"
	"testing"

	"strickle/api"
	"strickle/rule"
)

func TestA12Write(t *testing.T) {
	for _, x := range []struct {
		x    api.Frac
		want string
	}{{of(-3, 2), "-3/2"}, {of(3, 2), "3/2"}, {of(0, 1), "0"}, {of(4, 1), "4"}, {of(-4, 1), "-4"}, {of(-1000000000, 1), "-1000000000"}, {of(1000000000, 999999), "1000000000/999999"}, {of(1, 1000000), "1/1000000"}} {
		if s, e := rule.Write(x.x); s != x.want || e != api.OK {
			t.Errorf("Write(%v): %q, error %d", x.x, s, e)
		}
	}
	for _, x := range wrong() {
		if s, e := rule.Write(x); s != "" || e != api.ErrArg {
			t.Errorf("Write(%v): %q, error %d", x, s, e)
		}
	}
}

func TestA12Read(t *testing.T) {
	for _, s := range []string{
		"", "-", "/", "+", ".", "a", " ", "\n", "\x00", "6/8", "4/1", "-0", "+0", "+1", "00", "01", "-01", "01/2", "1/02", "1/", "/2", "-/2", "1/-2", "-1/-2", "1/+2", "--1", "1//2", "1/2/3", "1/2/", "1/0", "0/0",
		"0/1", "-0/1", "0/2", "1/1", "3/3", "-6/8", " 1", "1 ", "1 /2", "1/ 2", "1/2 ", "1/2\n", "1_0", "1_000/3", "0x1", "0b1", "1e3", "1.5", "1,5", "1\u00bd", "\u0661", "\uff11", "\xff", "1/\xff", "\u22121",
		"1000000001", "-1000000001", "1/1000001", "-1/1000001", "9223372036854775807", "-9223372036854775808", "9223372036854775808", "18446744073709551617", "18446744073709551617/2", "1/18446744073709551618",
		strings.Repeat("1", 1000), strings.Repeat("0", 1000), "1/" + strings.Repeat("3", 1000),
	} {
		if x, e := rule.Read(s); x != (api.Frac{}) || e != api.ErrForm {
			t.Errorf("Read(%q): %v, error %d", s, x, e)
		}
	}
	for _, x := range []struct {
		s    string
		want api.Frac
	}{{"0", of(0, 1)}, {"-3/2", of(-3, 2)}, {"7", of(7, 1)}, {"-10", of(-10, 1)}, {"10/3", of(10, 3)}, {"1000000000", of(1000000000, 1)}, {"-1000000000", of(-1000000000, 1)}, {"-1/1000000", of(-1, 1000000)}} {
		if y, e := rule.Read(x.s); y != x.want || e != api.OK {
			t.Errorf("Read(%q): %v, error %d", x.s, y, e)
		}
	}
}

// P1.8: Read inverts Write.
func TestP18Texts(t *testing.T) {
	for _, x := range many() {
		s, e := rule.Write(x)
		if y, f := rule.Read(s); y != x || e != api.OK || f != api.OK {
			t.Errorf("Read(%q): %v, errors %d, %d, want %v", s, y, e, f, x)
		}
	}
}

// P1.8: Write inverts Read: of all short texts just those are read that Write writes.
func TestP18AllTexts(t *testing.T) {
	letters := "-/0123 +"
	l := []string{""}
	for from := 0; len(l[from]) < 5; from++ {
		for _, c := range letters {
			l = append(l, l[from]+string(c))
		}
	}
	read := 0
	for _, s := range l {
		x, e := rule.Read(s)
		if e == api.ErrForm {
			continue
		}
		read++
		if back, f := rule.Write(x); e != api.OK || f != api.OK || back != s {
			t.Fatalf("Read(%q): %v, but its text is %q, errors %d, %d", s, x, back, e, f)
		}
	}
	want := 0
	for num := -3333; num <= 33333; num++ {
		for den := 1; den <= 3333; den++ {
			s, e := rule.Write(of(num, den))
			if e == api.OK && len(s) <= 5 && !strings.ContainsAny(s, "456789") {
				want++
			}
			if len(s) > 5 || den == 1 && (num > 3333 || num < -999) {
				break
			}
		}
	}
	if read != want {
		t.Errorf("%d texts are read, want %d", read, want)
	}
}
