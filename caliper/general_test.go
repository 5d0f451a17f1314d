package caliper_test

import (
	"fmt"
	"slices"
	"strings"
	"testing"

	"strickle/api"
	"strickle/caliper"
	"strickle/season"
	"strickle/solid"
)

// P8.1: the chapter's table of examples, of sheets.
func TestP81ExamplesOfSheets(t *testing.T) {
	for day, want := range map[int]api.Wood{0: {Sure: shape("7"), Maybe: blank()}, 1: wood(), 3: {Sure: shape("207"), Maybe: blank()}} {
		if w, e := caliper.Known(blank(), sheet(), day); w != want || e != api.OK {
			t.Errorf("Known on the day %d: %v, error %d", day, w, e)
		}
	}
	if w, e := caliper.Known(blank(), sheet(), 2); w != (api.Wood{}) || e != api.ErrDoubt {
		t.Errorf("Known on the day 2: %v, error %d", w, e)
	}
	c := api.Cell{X: 1, Y: 1}
	if d, ids, ok, e := caliper.Doubt(blank(), sheet(), 2); d != c || !slices.Equal(ids, []int{3, 2}) || !ok || e != api.OK {
		t.Errorf("Doubt: %v, %v, %v, error %d", d, ids, ok, e)
	}
	if ids, e := caliper.Rests(blank(), sheet(), 2, c); !slices.Equal(ids, []int{2, 3}) || e != api.OK {
		t.Errorf("Rests: %v, error %d", ids, e)
	}
	if s, e := caliper.Reached(blank(), sheet()[:2], bare(5, 1, "70000")); s != shape("70000") || e != api.OK {
		t.Errorf("Reached: %v, error %d", s, e)
	}
	for i, line := range []string{"1 0 seen 7", "2 1 bare 200", "3 2 seen 200", "4 3 void 2"} {
		if x, e := caliper.Read(line); x != sheet()[i] || e != api.OK {
			t.Errorf("Read(%q): %v, error %d", line, x, e)
		}
	}
}

// P8.1: the chapter's table of examples, of what a pattern serves.
func TestP81Examples(t *testing.T) {
	w, l, orders := wood(), probes(), []api.Solid{hook()}
	for text, want := range map[string]uint8{"107": api.ServesPerhaps, "7": api.ServesSure} {
		if n, e := caliper.Serves(w, shape(text)); n != want || e != api.OK {
			t.Errorf("Serves(%s): %d, error %d", text, n, e)
		}
	}
	if sets, e := caliper.Needs(w, hook()); !slices.Equal(sets, []api.Solid{shape("100"), shape("400")}) || e != api.OK {
		t.Errorf("Needs: %v, error %d", sets, e)
	}
	for found, want := range map[[3]int]bool{{2, 0, 1}: false, {2, 2, 2}: true} {
		if can, e := caliper.Can(w, l, found[:]); can != want || e != api.OK {
			t.Errorf("Can(%v): %v, error %d", found, can, e)
		}
	}
	if s, e := caliper.Behind(w, l, []int{1, 0, 0}); s != hook() || e != api.OK {
		t.Errorf("Behind: %v, error %d", s, e)
	}
	for found, want := range map[[3]int]uint8{{0, 0, 1}: api.ServesSure, {2, 2, 0}: api.ServesNever, {0, 0, 2}: api.ServesPerhaps} {
		if judged, e := caliper.Judged(w, l, found[:], orders); !slices.Equal(judged, []uint8{want}) || e != api.OK {
			t.Errorf("Judged(%v): %v, error %d", found, judged, e)
		}
	}
	if cost, ok := costed(t, chapter()); cost != 5 || !ok {
		t.Errorf("Cost: %d, %v", cost, ok)
	}
	if cost, e := caliper.Cost(w, l[2:], orders); cost != 0 || e != api.ErrOpen {
		t.Errorf("Cost of the third probe alone: %d, error %d", cost, e)
	}
	for cost, want := range map[int]bool{4: false, 5: true, 6: true} {
		if ok, e := caliper.CheckStrategy(w, l, orders, strategy(), cost); ok != want || e != api.OK {
			t.Errorf("CheckStrategy for %d: %v, error %d", cost, ok, e)
		}
		if ok, e := caliper.CheckAdversary(w, l, orders, adversary(), cost); ok != (cost < 6) || e != api.OK {
			t.Errorf("CheckAdversary for %d: %v, error %d", cost, ok, e)
		}
	}
	s := api.Season{Orders: []api.Order{{Id: 1, Size: 100, Wood: hook()}}, Spares: []api.Spare{{Id: 2, Size: 100, Wood: blank()}}}
	if least, greatest, e := caliper.Numbers(s, []api.Wood{w}); least != 0 || greatest != 1 || e != api.OK {
		t.Errorf("Numbers: %d, %d, error %d", least, greatest, e)
	}
}

// call is the arguments of functions with a wood.
type call struct {
	question
	found  []int
	forks  []api.Fork
	states []api.State
}

// right returns arguments with which each function returns something that is not zero.
func right() call {
	return call{question{wood(), probes(), []api.Solid{hook()}}, []int{0, 0, 1}, strategy(), adversary()}
}

// result is how a call ended, and whether all of its other results are zero.
type result struct {
	e    api.Errno
	zero bool
}

// fault is something that can be wrong, with its error, and the functions that do not mind it.
type fault struct {
	e     api.Errno
	minds string
	do    func(*call)
}

// The names of the functions with a wood, by what else they have.
const (
	withOrder = " Serves Truth Needs "
	withFound = " Can Behind Judged Decides "
	withCost  = " Cost Strategy CheckStrategy Adversary CheckAdversary "
	starred   = " Needs Judged Decides" + withCost
)

// faults returns what can be wrong, in the order in which errors are returned.
func faults() []fault {
	return []fault{
		{api.ErrArg, withOrder + withFound + withCost, func(c *call) { c.wood.Sure[5] |= 1 }},
		{api.ErrLimit, " Judged Decides" + withCost, func(c *call) {
			for range api.MaxWoods {
				c.orders = append(c.orders, shape("3"))
			}
		}},
		{api.ErrArg, withOrder + " Judged Decides" + withCost, func(c *call) { c.orders[0] = api.Solid{} }},
		{api.ErrLimit, withFound + withCost, func(c *call) {
			for range api.MaxProbes - 2 {
				c.probes = append(c.probes, probe("1", 1))
				c.found = append(c.found, 0)
			}
		}},
		{api.ErrArg, withFound + withCost, func(c *call) { c.probes[1].Cost = 1001 }},
		{api.ErrArg, withFound, func(c *call) { c.found[1] = 3 }},
		{api.ErrMany, starred, func(c *call) { c.wood.Maybe[1] = 1<<63 - 1 }},
		{api.ErrNone, " Behind Judged Decides ", func(c *call) { c.found[0] = 2 }},
		{api.ErrLimit, " CheckStrategy ", func(c *call) { c.forks = make([]api.Fork, 257) }},
		{api.ErrLimit, " CheckAdversary ", func(c *call) { c.states = make([]api.State, 6562) }},
		{api.ErrOpen, " Cost Strategy ", func(c *call) { c.probes[0].Cells, c.probes[1].Cells = shape("1"), shape("2") }},
	}
}

// callAll calls each function with a wood.
func callAll(c call) map[string]result {
	l := map[string]result{}
	n, e := caliper.Serves(c.wood, c.orders[0])
	l["Serves"] = result{e, n == 0}
	s, ok, e := caliper.Truth(c.wood, c.orders[0], true)
	l["Truth"] = result{e, s == api.Solid{} && !ok}
	sets, e := caliper.Needs(c.wood, c.orders[0])
	l["Needs"] = result{e, len(sets) == 0}
	ok, e = caliper.Can(c.wood, c.probes, c.found)
	l["Can"] = result{e, !ok}
	s, e = caliper.Behind(c.wood, c.probes, c.found)
	l["Behind"] = result{e, s == api.Solid{}}
	judged, e := caliper.Judged(c.wood, c.probes, c.found, c.orders)
	l["Judged"] = result{e, len(judged) == 0}
	ok, e = caliper.Decides(c.wood, c.probes, c.found, c.orders)
	l["Decides"] = result{e, !ok}
	cost, e := caliper.Cost(c.wood, c.probes, c.orders)
	l["Cost"] = result{e, cost == 0}
	forks, e := caliper.Strategy(c.wood, c.probes, c.orders)
	l["Strategy"] = result{e, len(forks) == 0}
	ok, e = caliper.CheckStrategy(c.wood, c.probes, c.orders, c.forks, 5)
	l["CheckStrategy"] = result{e, !ok}
	states, e := caliper.Adversary(c.wood, c.probes, c.orders)
	l["Adversary"] = result{e, len(states) == 0}
	ok, e = caliper.CheckAdversary(c.wood, c.probes, c.orders, c.states, 5)
	l["CheckAdversary"] = result{e, !ok}
	return l
}

// P8.1: functions with a wood return the first error of the chapter's order, and nothing else then, whatever else is wrong.
func TestP81Wrong(t *testing.T) {
	all := faults()
	for some := range 1 << len(all) {
		c := right()
		want := map[string]api.Errno{}
		// The error of the first fault stays: the others are done ahead of it.
		for i, x := range slices.Backward(all) {
			if some>>i&1 == 0 {
				continue
			}
			x.do(&c)
			for _, name := range strings.Fields(x.minds) {
				want[name] = x.e
			}
		}
		for name, r := range callAll(c) {
			if r.e != want[name] || r.e != api.OK && !r.zero || some == 0 && r.zero {
				t.Fatalf("%s(%v): error %d, other results zero: %v, want %d", name, c, r.e, r.zero, want[name])
			}
		}
	}
}

// behind returns a list with room behind its elements, and the whole of its memory.
func behind[T any](l []T, x T) (short, whole []T) {
	whole = append(slices.Clip(slices.Clone(l)), x, x)
	return whole[:len(l)], whole
}

// P8.1 with rule R3: arguments stay as they are, also behind their ends.
func TestP81ArgumentsStay(t *testing.T) {
	readings, allReadings := behind(sheet(), void(9, 9, 9))
	l, allProbes := behind(probes(), probe("1", 9))
	found, allFound := behind([]int{0, 0, 1}, 9)
	orders, allOrders := behind([]api.Solid{hook()}, shape("9"))
	forks, allForks := behind(strategy(), api.Fork{Probe: 9})
	states, allStates := behind(adversary(), state(9, 9))
	first, allFirst := behind([]uint8{0, 0, 0}, 9)
	states[0].Found = first
	woods, allWoods := behind([]api.Wood{wood(), wood()}, api.Wood{})
	spares, allSpares := behind([]api.Spare{{Id: 2, Size: 100, Wood: blank()}, {Id: 1, Size: 100, Wood: blank()}}, api.Spare{Id: 9})
	jobs, allJobs := behind([]api.Order{{Id: 2, Size: 100, Wood: hook()}, {Id: 1, Size: 100, Wood: hook()}}, api.Order{Id: 9})
	kept := func() string {
		return fmt.Sprint(allReadings, allProbes, allFound, allOrders, allForks, allStates, allFirst, allWoods, allSpares, allJobs)
	}
	before := kept()
	callAll(call{question{wood(), l, orders}, found, forks, states})
	caliper.CheckProbes(l)
	caliper.Check(readings)
	caliper.Append(readings, seen(7, 9, "1"))
	caliper.Counting(readings, 2)
	caliper.Known(blank(), readings, 1)
	caliper.Doubt(blank(), readings, 2)
	caliper.Rests(blank(), readings, 2, api.Cell{X: 1, Y: 1})
	caliper.Reached(blank(), readings, seen(7, 9, "1"))
	caliper.Numbers(api.Season{Orders: jobs, Spares: spares}, woods)
	if after := kept(); after != before {
		t.Errorf("the arguments are %s now, not %s", after, before)
	}
}

// overwrite writes over a list and behind its end.
func overwrite[T any](l []T, x T) {
	l = l[:cap(l)]
	for i := range l {
		l[i] = x
	}
}

// P8.1 with rules R3 and R4: what is written into a result changes no argument, no part of the same result, and no later one.
func TestP81NewMemory(t *testing.T) {
	l := sheet()
	longer, e := caliper.Append(l, seen(7, 9, "1"))
	short, f := caliper.Counting(l[:1], 2)
	if e != api.OK || f != api.OK || len(longer) != 5 || len(short) != 1 {
		t.Fatalf("Append: %v, error %d, Counting: %v, error %d", longer, e, short, f)
	}
	overwrite(longer, void(9, 9, 9))
	overwrite(short, void(9, 9, 9))
	if !slices.Equal(l, sheet()) {
		t.Fatalf("the sheet is %v now", l)
	}
	for _, q := range append(questions(40), large(1)...) {
		say := func() string {
			states, _ := caliper.Adversary(q.wood, q.probes, q.orders)
			forks, _ := caliper.Strategy(q.wood, q.probes, q.orders)
			judged, _ := caliper.Judged(q.wood, q.probes, q.none(), q.orders)
			text := fmt.Sprint(states, forks, judged)
			for i := range states {
				overwrite(states[i].Found, 7)
				if i+1 < len(states) && slices.Contains(states[i+1].Found, 7) {
					t.Fatalf("%v: %v", q, states)
				}
			}
			overwrite(states, state(-1))
			overwrite(forks, api.Fork{Probe: -1})
			overwrite(judged, 9)
			for _, order := range q.orders {
				sets, _ := caliper.Needs(q.wood, order)
				text += fmt.Sprint(sets)
				overwrite(sets, api.Solid{9})
			}
			return text
		}
		if first, again := say(), say(); first != again {
			t.Errorf("%v: %s, then %s", q, first, again)
		}
	}
	ids, _ := caliper.Rests(blank(), l, 2, api.Cell{X: 1, Y: 1})
	_, both, _, _ := caliper.Doubt(blank(), l, 2)
	overwrite(ids, -1)
	overwrite(both, -1)
	if again, _ := caliper.Rests(blank(), l, 2, api.Cell{X: 1, Y: 1}); !slices.Equal(again, []int{2, 3}) {
		t.Errorf("Rests: %v", again)
	}
}

// T8: the cost of a question is that of a strategy and of an adversary; the least number of new patterns lies, whatever the patterns are, between two numbers that are attained.
func TestT8(t *testing.T) {
	decided := 0
	for _, q := range append(questions(60), large(3)...) {
		if cost, ok := costed(t, q); ok && cost > 0 {
			decided++
		}
	}
	if decided < 20 {
		t.Errorf("only %d questions have a cost above 0", decided)
	}
	for _, x := range stocks(10) {
		least, greatest, e := caliper.Numbers(x.season, x.woods)
		if e != api.OK {
			t.Fatalf("Numbers(%v): error %d", x, e)
		}
		for _, spares := range x.all() {
			if n, _ := season.Least(spares); n < least || n > greatest {
				t.Fatalf("Numbers(%v): %d, %d, but %v needs %d", x, least, greatest, spares, n)
			}
		}
	}
	if n := solid.Count(solid.Less(large(1)[0].wood.Maybe, large(1)[0].wood.Sure)); n != api.MaxOpen {
		t.Errorf("%d open cells", n)
	}
}
