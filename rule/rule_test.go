package rule_test

import (
	"math/big"
	"testing"

	"strickle/api"
	"strickle/rule"
)

func TestA8CheckRule(t *testing.T) {
	for _, r := range rules() {
		if e := rule.CheckRule(r); e != api.OK {
			t.Errorf("CheckRule(%v): error %d", r, e)
		}
	}
	for _, r := range wrongRules() {
		if e := rule.CheckRule(r); e != api.ErrArg {
			t.Errorf("CheckRule(%v): error %d", r, e)
		}
	}
}

func TestA8Cast(t *testing.T) {
	for _, x := range []struct {
		r         api.Rule
		size      int
		low, high api.Frac
	}{
		{shrink(1, 100, 1, 50), 1000, of(980, 1), of(990, 1)},
		{shrink(1, 100, 1, 50), 1015, of(9947, 10), of(20097, 20)},
		{shrink(0, 1, 1, 4), 1, of(3, 4), of(1, 1)},
		{shrink(1, 999, 1, 998), 1000000, of(498500000, 499), of(998000000, 999)},
		{shrink(0, 1, 0, 1), 1000000, of(1000000, 1), of(1000000, 1)},
		{shrink(1, 999, 1, 998), 999999, of(997*999999, 998), of(998*1001, 1)},
	} {
		low, high, e := rule.Cast(x.r, x.size)
		if low != x.low || high != x.high || e != api.OK {
			t.Errorf("Cast(%v, %d): %v, %v, error %d", x.r, x.size, low, high, e)
		}
	}
	for _, r := range rules() {
		for _, size := range []int{1, 2, 3, 97, 1000, 1001, 333333, 999983, 999999, 1000000} {
			a, b := measures(r, size)
			least, _ := wanted(a)
			most, _ := wanted(b)
			if low, high, e := rule.Cast(r, size); low != least || high != most || e != api.OK {
				t.Errorf("Cast(%v, %d): %v, %v, error %d", r, size, low, high, e)
			}
		}
	}
}

func TestA8CastWrong(t *testing.T) {
	none := api.Frac{}
	for _, r := range wrongRules() {
		for _, size := range []int{0, 1, 1000} {
			if low, high, e := rule.Cast(r, size); low != none || high != none || e != api.ErrArg {
				t.Errorf("Cast(%v, %d): %v, %v, error %d", r, size, low, high, e)
			}
		}
	}
	for _, size := range wrongSizes() {
		if low, high, e := rule.Cast(rules()[0], size); low != none || high != none || e != api.ErrArg {
			t.Errorf("Cast(%d): %v, %v, error %d", size, low, high, e)
		}
	}
}

func TestA9Sizes(t *testing.T) {
	tin := shrink(1, 100, 1, 50)
	for _, x := range []struct {
		r                      api.Rule
		low, high, least, most int
		ok                     bool
	}{
		{tin, 980, 990, 1000, 1000, true},
		{tin, 980, 989, 0, 0, false},
		{tin, 981, 990, 0, 0, false},
		{tin, 975, 1000, 995, 1010, true},
		{tin, 1, 1, 0, 0, false},
		{shrink(0, 1, 0, 1), 1, 1000000, 1, 1000000, true},
		{shrink(0, 1, 0, 1), 1000000, 1000000, 1000000, 1000000, true},
		{shrink(0, 1, 0, 1), 1, 1, 1, 1, true},
		{shrink(1, 4, 1, 4), 750000, 1000000, 1000000, 1000000, true},
		{shrink(1, 4, 1, 4), 750001, 1000000, 0, 0, false},
		{shrink(1, 4, 1, 4), 3, 3, 4, 4, true},
		{shrink(1, 4, 1, 4), 1, 1, 0, 0, false},
		{shrink(1, 4, 1, 4), 700000, 740000, 933334, 986666, true},
		{shrink(1, 4, 1, 4), 1000000, 1000000, 0, 0, false},
	} {
		if l, m, ok, e := rule.Sizes(x.r, x.low, x.high); l != x.least || m != x.most || ok != x.ok || e != api.OK {
			t.Errorf("Sizes(%v, %d, %d): %d, %d, %v, error %d", x.r, x.low, x.high, l, m, ok, e)
		}
	}
}

// A rule or a size that is not as said decides ahead of a range whose ends are the wrong way round.
func TestA9Wrong(t *testing.T) {
	check := func(r api.Rule, low, high int, want api.Errno) {
		if l, m, ok, e := rule.Sizes(r, low, high); l != 0 || m != 0 || ok || e != want {
			t.Errorf("Sizes(%v, %d, %d): %d, %d, %v, error %d", r, low, high, l, m, ok, e)
		}
	}
	for _, r := range rules() {
		check(r, 2, 1, api.ErrOrder)
		check(r, 1000000, 999999, api.ErrOrder)
		check(r, 1000000, 1, api.ErrOrder)
	}
	for _, n := range wrongSizes() {
		check(rules()[0], n, 5, api.ErrArg)
		check(rules()[0], 5, n, api.ErrArg)
		check(rules()[0], n, n, api.ErrArg)
		check(rules()[0], 1000000, n, api.ErrArg)
		check(rules()[0], n, 1, api.ErrArg)
	}
	for _, r := range wrongRules() {
		check(r, 1, 5, api.ErrArg)
		check(r, 5, 1, api.ErrArg)
	}
}

// P1.6: Sizes returns exactly the sizes that serve, and a size serves exactly if both ends of Cast lie from low to high.
func TestP16SizesAll(t *testing.T) {
	for _, r := range rules() {
		for _, x := range [][2]int{{1, 3}, {7, 7}, {7, 8}, {20, 30}, {90, 100}, {98, 99}, {60, 60}, {1, 200}} {
			low, high := x[0], x[1]
			least, most, ok, e := rule.Sizes(r, low, high)
			if e != api.OK {
				t.Fatalf("Sizes(%v, %d, %d): error %d", r, low, high, e)
			}
			for size := 1; size <= 2*high+2; size++ {
				a, b, e := rule.Cast(r, size)
				ends := rat(a).Cmp(big.NewRat(int64(low), 1)) >= 0 && rat(b).Cmp(big.NewRat(int64(high), 1)) <= 0
				in := ok && least <= size && size <= most
				if e != api.OK || in != ends || in != serves(r, size, low, high) {
					t.Fatalf("Sizes(%v, %d, %d): %d, %d, %v, but the size %d", r, low, high, least, most, ok, size)
				}
			}
		}
	}
}

func TestP16SizesGreat(t *testing.T) {
	for _, r := range rules() {
		for _, x := range [][2]int{{1, 1000000}, {500000, 500000}, {499990, 500010}, {740000, 760000}, {749999, 750000}, {990000, 1000000}, {1000000, 1000000}, {999999, 999999}, {123456, 654321}} {
			low, high := x[0], x[1]
			// The chapter's bounds, solved for the size.
			left, right := measures(r, 1)
			from := ceilOf(new(big.Rat).Quo(big.NewRat(int64(low), 1), left))
			to := min(floorOf(new(big.Rat).Quo(big.NewRat(int64(high), 1), right)), api.MaxSize)
			some := from <= to
			if !some {
				from, to = 0, 0
			}
			if least, most, ok, e := rule.Sizes(r, low, high); least != from || most != to || ok != some || e != api.OK {
				t.Errorf("Sizes(%v, %d, %d): %d, %d, %v, error %d, want %d, %d", r, low, high, least, most, ok, e, from, to)
			}
		}
	}
}

func TestA10Miss(t *testing.T) {
	for _, x := range []struct {
		r          api.Rule
		size, want int
		miss       api.Frac
	}{
		{shrink(1, 100, 1, 50), 1000, 985, of(5, 1)},
		{shrink(1, 100, 1, 50), 1015, 1000, of(53, 10)},
		{shrink(1, 100, 1, 50), 1000, 900, of(90, 1)},
		{shrink(1, 100, 1, 50), 1000, 1100, of(120, 1)},
		{shrink(0, 1, 0, 1), 7, 7, of(0, 1)},
		{shrink(0, 1, 0, 1), 1, 1000000, of(999999, 1)},
		{shrink(0, 1, 0, 1), 1000000, 1, of(999999, 1)},
		{shrink(1, 4, 1, 4), 1, 1000000, of(3999997, 4)},
	} {
		if y, e := rule.Miss(x.r, x.size, x.want); y != x.miss || e != api.OK {
			t.Errorf("Miss(%v, %d, %d): %v, error %d", x.r, x.size, x.want, y, e)
		}
	}
	sizes := []int{1, 2, 77, 1000, 1001, 333333, 999983, 1000000}
	for _, r := range rules() {
		for _, size := range sizes {
			for _, want := range sizes {
				miss, _ := wanted(missOf(r, size, want))
				if y, e := rule.Miss(r, size, want); y != miss || e != api.OK {
					t.Errorf("Miss(%v, %d, %d): %v, error %d, want %v", r, size, want, y, e, miss)
				}
			}
		}
	}
}

func TestA10Best(t *testing.T) {
	for _, x := range []struct {
		r          api.Rule
		want, best int
	}{
		{shrink(1, 100, 1, 50), 985, 1000},
		{shrink(1, 100, 1, 50), 1000, 1015},
		{shrink(0, 1, 0, 1), 1, 1},
		{shrink(0, 1, 0, 1), 1000000, 1000000},
		{shrink(1, 5, 1, 5), 2, 2}, // as near as 3
		{shrink(1, 4, 1, 4), 1, 1},
		{shrink(1, 4, 1, 4), 2, 3},
		{shrink(1, 4, 1, 4), 750000, 1000000},
		{shrink(1, 4, 1, 4), 1000000, 1000000}, // no size is great enough
		{shrink(1, 4, 1, 4), 749999, 999999},
	} {
		if n, e := rule.Best(x.r, x.want); n != x.best || e != api.OK {
			t.Errorf("Best(%v, %d): %d, error %d", x.r, x.want, n, e)
		}
	}
}

func TestA10Wrong(t *testing.T) {
	check := func(r api.Rule, size, want int) {
		if x, e := rule.Miss(r, size, want); x != (api.Frac{}) || e != api.ErrArg {
			t.Errorf("Miss(%v, %d, %d): %v, error %d", r, size, want, x, e)
		}
	}
	for _, r := range wrongRules() {
		check(r, 1, 1)
		if n, e := rule.Best(r, 1); n != 0 || e != api.ErrArg {
			t.Errorf("Best(%v, 1): %d, error %d", r, n, e)
		}
	}
	for _, n := range wrongSizes() {
		check(rules()[0], n, 1)
		check(rules()[0], 1, n)
		if m, e := rule.Best(rules()[0], n); m != 0 || e != api.ErrArg {
			t.Errorf("Best(%d): %d, error %d", n, m, e)
		}
	}
}

// P1.6: no size has a lesser miss than Best; of two with the least one it is the lesser one.
func TestP16Best(t *testing.T) {
	for _, r := range rules() {
		for want := 1; want <= 40; want++ {
			best := 1
			for size := 2; size <= 100; size++ {
				if missOf(r, size, want).Cmp(missOf(r, best, want)) < 0 {
					best = size
				}
			}
			if n, e := rule.Best(r, want); n != best || e != api.OK {
				t.Errorf("Best(%v, %d): %d, error %d, want %d", r, want, n, e, best)
			}
		}
		for _, want := range []int{99999, 500000, 740000, 749999, 750001, 874999, 900000, 999999, 1000000} {
			n, e := rule.Best(r, want)
			// The greatest distance from a number falls, and then rises, so its two neighbours decide.
			less := n > 1 && missOf(r, n-1, want).Cmp(missOf(r, n, want)) <= 0
			more := n < api.MaxSize && missOf(r, n+1, want).Cmp(missOf(r, n, want)) < 0
			if n < 1 || n > api.MaxSize || less || more || e != api.OK {
				t.Errorf("Best(%v, %d): %d, error %d", r, want, n, e)
			}
		}
	}
}

func TestA11Twice(t *testing.T) {
	none := api.Rule{}
	for _, x := range []struct {
		r, q, want api.Rule
		e          api.Errno
	}{
		{shrink(1, 100, 1, 50), shrink(1, 10, 1, 10), shrink(109, 1000, 59, 500), api.OK},
		{shrink(0, 1, 0, 1), shrink(1, 100, 1, 50), shrink(1, 100, 1, 50), api.OK},
		{shrink(0, 1, 1, 10), shrink(0, 1, 1, 6), shrink(0, 1, 1, 4), api.OK},
		{shrink(0, 1, 1, 10), shrink(0, 1, 1, 5), none, api.ErrSize},
		{shrink(1, 4, 1, 4), shrink(1, 4, 1, 4), none, api.ErrSize},
		{shrink(0, 1, 1, 1000), shrink(0, 1, 1, 999), shrink(0, 1, 1, 500), api.OK},
		{shrink(0, 1, 1, 1000), shrink(0, 1, 1, 998), none, api.ErrSize},
		{shrink(1, 1000, 1, 10), shrink(1, 998, 1, 10), none, api.ErrSize},
		{shrink(1, 1000, 1, 1000), shrink(1, 1000, 1, 1000), none, api.ErrSize},
		{none, shrink(0, 1, 0, 1), none, api.ErrArg},
		{shrink(1, 4, 1, 4), shrink(1, 3, 1, 3), none, api.ErrArg},
	} {
		if y, e := rule.Twice(x.r, x.q); y != x.want || e != x.e {
			t.Errorf("Twice(%v, %v): %v, error %d", x.r, x.q, y, e)
		}
	}
}

func TestA11Both(t *testing.T) {
	none := api.Rule{}
	for _, x := range []struct {
		r, q, want api.Rule
		e          api.Errno
	}{
		{shrink(1, 100, 1, 50), shrink(1, 60, 1, 40), shrink(1, 60, 1, 50), api.OK},
		{shrink(1, 60, 1, 50), shrink(1, 100, 1, 40), shrink(1, 60, 1, 50), api.OK},
		{shrink(1, 100, 1, 50), shrink(1, 50, 1, 40), shrink(1, 50, 1, 50), api.OK},
		{shrink(1, 100, 1, 50), shrink(49, 999, 1, 4), none, api.ErrNone},
		{shrink(1, 100, 1, 51), shrink(1, 50, 1, 40), none, api.ErrNone},
		{shrink(0, 1, 0, 1), shrink(0, 1, 1, 4), shrink(0, 1, 0, 1), api.OK},
		{shrink(0, 1, 0, 1), shrink(1, 1000, 1, 4), none, api.ErrNone},
		{none, shrink(1, 50, 1, 40), none, api.ErrArg},
		{shrink(1, 100, 1, 51), shrink(1, 3, 1, 3), none, api.ErrArg},
	} {
		y, e := rule.Both(x.r, x.q)
		z, f := rule.Both(x.q, x.r)
		if y != x.want || z != x.want || e != x.e || f != x.e {
			t.Errorf("Both(%v, %v): %v, %v, errors %d, %d", x.r, x.q, y, z, e, f)
		}
	}
}

func TestA11Wrong(t *testing.T) {
	none, good := api.Rule{}, shrink(1, 100, 1, 50)
	for _, r := range wrongRules() {
		for _, x := range [][2]api.Rule{{r, good}, {good, r}, {r, r}} {
			if y, e := rule.Twice(x[0], x[1]); y != none || e != api.ErrArg {
				t.Errorf("Twice(%v): %v, error %d", x, y, e)
			}
			if y, e := rule.Both(x[0], x[1]); y != none || e != api.ErrArg {
				t.Errorf("Both(%v): %v, error %d", x, y, e)
			}
		}
	}
}

// P1.7: Cast of Twice is what casting twice gives, at both ends.
func TestP17Twice(t *testing.T) {
	made := 0
	for _, r := range rules() {
		for _, q := range rules() {
			// A casting of a casting of a pattern of the size 1.
			a, b := measures(r, 1)
			c, d := measures(q, 1)
			low, high := new(big.Rat).Mul(a, c), new(big.Rat).Mul(b, d)
			least, e := wanted(new(big.Rat).Sub(big.NewRat(1, 1), high))
			most, f := wanted(new(big.Rat).Sub(big.NewRat(1, 1), low))
			want, err := api.Rule{Least: least, Most: most}, api.OK
			if e != api.OK || f != api.OK || rule.CheckRule(want) != api.OK {
				want, err = api.Rule{}, api.ErrSize
			}
			twice, g := rule.Twice(r, q)
			if twice != want || g != err {
				t.Errorf("Twice(%v, %v): %v, error %d, want %v, error %d", r, q, twice, g, want, err)
			}
			if err != api.OK {
				continue
			}
			made++
			for _, size := range []int{1, 30, 999, 1000000} {
				n := big.NewRat(int64(size), 1)
				x, y, e := rule.Cast(twice, size)
				if e != api.OK || rat(x).Cmp(new(big.Rat).Mul(low, n)) != 0 || rat(y).Cmp(new(big.Rat).Mul(high, n)) != 0 {
					t.Errorf("Cast(%v, %d): %v, %v, error %d", twice, size, x, y, e)
				}
			}
		}
	}
	if made < 20 {
		t.Errorf("only %d rules", made)
	}
}

// P1.7: what serves for a rule serves for each rule whose shrinks are among its own, which Both returns.
func TestP17Both(t *testing.T) {
	for _, r := range rules() {
		for _, q := range rules() {
			both, e := rule.Both(r, q)
			if e == api.ErrNone {
				if rat(r.Most).Cmp(rat(q.Least)) >= 0 && rat(q.Most).Cmp(rat(r.Least)) >= 0 {
					t.Errorf("Both(%v, %v): error %d", r, q, e)
				}
				continue
			}
			if e != api.OK || rule.CheckRule(both) != api.OK {
				t.Fatalf("Both(%v, %v): %v, error %d", r, q, both, e)
			}
			for _, s := range rules() {
				for _, x := range []api.Frac{s.Least, s.Most} {
					in := func(r api.Rule) bool { return rat(r.Least).Cmp(rat(x)) <= 0 && rat(x).Cmp(rat(r.Most)) <= 0 }
					if in(both) != (in(r) && in(q)) {
						t.Errorf("Both(%v, %v): %v, but the shrink %v", r, q, both, x)
					}
				}
			}
			for _, x := range [][2]int{{975, 1000}, {1, 50}, {700000, 900000}} {
				a, b, ok, _ := rule.Sizes(r, x[0], x[1])
				c, d, also, _ := rule.Sizes(both, x[0], x[1])
				if ok && (!also || c > a || d < b) {
					t.Errorf("Sizes(%v, %v): %d, %d, but of %v %d, %d", r, x, a, b, both, c, d)
				}
			}
		}
	}
}
