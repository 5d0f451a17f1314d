package draw_test

import (
	"slices"
	"testing"

	"strickle/api"
	"strickle/draw"
)

// locksOf returns all locks, in order, by the definition.
func locksOf(o model) [][]int {
	var l [][]int
	for s := range o.all() + 1 {
		if o.isLock(s) {
			l = append(l, listOf(s))
		}
	}
	return inOrder(l)
}

func TestC5Lock(t *testing.T) {
	locked, free := 0, 0
	for _, m := range many() {
		want := 0
		for _, l := range locksOf(modelOf(m)) {
			want |= bitsOf(l)
		}
		if l, e := draw.Lock(m); !slices.Equal(l, listOf(want)) || e != api.OK {
			t.Fatalf("Lock(%x): %v, error %d, want %v", m, l, e, listOf(want))
		}
		if want == 0 {
			free++
		} else {
			locked++
		}
	}
	if min(locked, free) < 20 {
		t.Errorf("%d moulds are locked, %d are not", locked, free)
	}
	if l, e := draw.Lock(freeOnes()); len(l) != 0 || e != api.OK {
		t.Errorf("Lock of free ones: %v, error %d", l, e)
	}
}

func TestC5LeastLock(t *testing.T) {
	large, choice := 0, 0
	for _, m := range many() {
		locks := locksOf(modelOf(m))
		var want []int
		if len(locks) > 0 {
			want = locks[0]
		}
		if l, ok, e := draw.LeastLock(m); !slices.Equal(l, want) || ok != (want != nil) || e != api.OK {
			t.Fatalf("LeastLock(%x): %v, %v, error %d, want %v", m, l, ok, e, want)
		}
		if len(want) > 1 {
			large++
		}
		if len(locks) > 1 && len(locks[1]) == len(want) {
			choice++
		}
	}
	if large < 5 || choice < 10 {
		t.Errorf("%d least locks have several pieces, %d are one of several", large, choice)
	}
	if l, ok, e := draw.LeastLock(wheel()); !slices.Equal(l, []int{0, 1, 2, 3, 4, 5, 6, 7}) || !ok || e != api.OK {
		t.Errorf("LeastLock of a wheel: %v, %v, error %d", l, ok, e)
	}
}

func TestC5CheckLock(t *testing.T) {
	locks := 0
	for _, m := range many() {
		o := modelOf(m)
		for s := range o.all() + 1 {
			ok, e := draw.CheckLock(m, listOf(s))
			if ok != o.isLock(s) || e != api.OK {
				t.Fatalf("CheckLock(%x, %v): %v, error %d", m, listOf(s), ok, e)
			}
			if !ok {
				continue
			}
			locks++
			back := listOf(s)
			slices.Reverse(back)
			for _, l := range [][]int{append(listOf(s), s), append([]int{-1}, listOf(s)...), append(listOf(s), listOf(s)...), append(listOf(s), len(m)), append(slices.Clone(back), back...), append(slices.Clone(back[:1]), listOf(s)...)} {
				if slices.IsSorted(l) && len(slices.Compact(slices.Clone(l))) == len(l) && l[0] >= 0 && l[len(l)-1] < len(m) {
					continue
				}
				if ok, e := draw.CheckLock(m, l); ok || e != api.OK {
					t.Fatalf("CheckLock(%x, %v): %v, error %d", m, l, ok, e)
				}
			}
		}
	}
	if locks < 200 {
		t.Errorf("only %d locks", locks)
	}
	for _, l := range append(wrongSets(2), []int{1, 0}, nil, []int{}) {
		if ok, e := draw.CheckLock(mouldR(), l); ok || e != api.OK {
			t.Errorf("CheckLock(R, %v): %v, error %d", l, ok, e)
		}
	}
	if ok, e := draw.CheckLock(nil, nil); ok || e != api.OK {
		t.Errorf("CheckLock of no pieces: %v, error %d", ok, e)
	}
}

// P3.2: there is an order of all pieces, or a lock, never both; no lock has fewer pieces than LeastLock, and each is part of Lock, which Rounds leaves.
func TestP32OrderOrLock(t *testing.T) {
	for _, m := range append(many(), freeOnes()) {
		order, drawn, e := draw.Draw(m)
		least, locked, f := draw.LeastLock(m)
		if drawn == locked || e != api.OK || f != api.OK {
			t.Fatalf("%x: Draw %v, LeastLock %v, errors %d, %d", m, drawn, locked, e, f)
		}
		if ok, e := draw.CheckDraw(m, order); ok != drawn || e != api.OK {
			t.Fatalf("CheckDraw(%x, %v): %v, error %d", m, order, ok, e)
		}
		if ok, e := draw.CheckLock(m, least); ok != locked || e != api.OK {
			t.Fatalf("CheckLock(%x, %v): %v, error %d", m, least, ok, e)
		}
		greatest, e := draw.Lock(m)
		rounds, f := draw.Rounds(m)
		left := 1<<len(m) - 1
		for _, l := range rounds {
			left &^= bitsOf(l)
		}
		if left != bitsOf(greatest) || e != api.OK || f != api.OK {
			t.Fatalf("%x: Lock %v, Rounds %v", m, greatest, rounds)
		}
		if ok, e := draw.CheckLock(m, greatest); ok != locked || e != api.OK {
			t.Fatalf("CheckLock(%x, %v): %v, error %d", m, greatest, ok, e)
		}
		if len(m) > 8 {
			continue
		}
		for s := range 1 << len(m) {
			if ok, e := draw.CheckLock(m, listOf(s)); ok && (len(listOf(s)) < len(least) || s&^bitsOf(greatest) != 0) || e != api.OK {
				t.Fatalf("%x: the lock %v, LeastLock %v, Lock %v", m, listOf(s), least, greatest)
			}
		}
	}
}
