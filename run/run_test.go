package run_test

import (
	"math"
	"math/rand"
	"slices"
	"strconv"
	"testing"

	"fairlead/amount"
	"fairlead/api"
	"fairlead/oops"
	"fairlead/paut"
	"fairlead/pds"
	"fairlead/post"
	"fairlead/pre"
	"fairlead/run"
	"fairlead/sample"
)

func check[T comparable](t *testing.T, what string, got, want T) {
	t.Helper()
	if got != want {
		t.Errorf("%s: got %v, want %v", what, got, want)
	}
}

// checkNil: is it no error?
func checkNil(t *testing.T, what string, err error) {
	t.Helper()
	if err != nil {
		t.Errorf("%s: %v, want nil", what, err)
	}
}

// What package sample makes, and tells.
var (
	config     = sample.Config
	configText = sample.ConfigText
	rule       = sample.Rule
	system     = sample.System
	edge       = sample.Edge
	made       = sample.Auto
	autoText   = sample.AutoText
)

// ways: fromEnd, by what it tells.
var ways = map[string]bool{"on from the start": false, "back from the end": true}

// text: all that a run is.
func text(r run.Run) string {
	return configText(r.Start) + " by " + sample.Numbers(r.Rules) + " to " + configText(r.End) + " for " + strconv.FormatUint(r.Cost, 10)
}

// noRun is the zero one's text.
const noRun = "0,  by  to 0,  for 0"

// alike: is the run of either way just that, and good?
func alike(t *testing.T, what string, s pds.System, a, b paut.Auto, most int, want string) {
	t.Helper()
	for way, fromEnd := range ways {
		r, err := run.Between(s, a, b, fromEnd, most)
		checkNil(t, what+", "+way, err)
		check(t, what+", "+way, text(r), want)
		check(t, what+", "+way+": is it good?", run.Good(s, a, b, r), true)
	}
}

// fails: is there just that fault either way, beside a Run of which no more than
// the Cost is told?
func fails(t *testing.T, what string, s pds.System, a, b paut.Auto, most int, code api.Errno, at int, cost uint64) {
	t.Helper()
	for way, fromEnd := range ways {
		r, err := run.Between(s, a, b, fromEnd, most)
		checkFault(t, what+", "+way, r, err, code, at, cost)
	}
}

func checkFault(t *testing.T, what string, r run.Run, err error, code api.Errno, at int, cost uint64) {
	t.Helper()
	want := oops.New(code, at)
	if err == nil || !oops.Same(err, want) || err.Error() != want.Error() {
		t.Errorf("%s: %v, want %v", what, err, want)
	}
	check(t, what+": what it costs", r.Cost, cost)
	r.Cost = 0
	check(t, what+": beside it", text(r), noRun)
}

// example: the chapter's.
func example() (pds.System, paut.Auto, paut.Auto) {
	s := system(2, 8, rule(0, 5, 1, "", 2))
	return s, made(2, 3, "2", edge(0, 5, 2, 3)), made(2, 2, "1")
}

// P25.1: the chapter's example.
func TestExample(t *testing.T) {
	s, a, b := example()
	alike(t, "the example", s, a, b, 1, "0, 5 by 0 to 1,  for 5")
	fails(t, "no rules", s, a, b, 0, api.ErrLong, 0, 5)
	fails(t, "the other way round", s, made(2, 2, "1"), made(2, 3, "2", edge(0, 5, 2, 3)), 9, api.ErrNone, 0, 0)
}

// ring: rules of none, one and two labels, in a ring.
func ring() pds.System {
	return system(3, 4,
		rule(0, 0, 1, "1 2", 10),
		rule(1, 1, 1, "", 1),
		rule(1, 2, 2, "3", 3),
		rule(2, 3, 0, "0", 7),
		rule(1, 1, 1, "", 2),
		rule(2, 3, 2, "1 3", 0),
	)
}

// P25.1: rules of each kind, one behind the other, and what both ends cost.
func TestKinds(t *testing.T) {
	s := ring()
	a := made(3, 6, "3 5", edge(0, 0, 3, 4), edge(3, 3, 4, 0), edge(4, 3, 5, 6))
	for _, c := range []struct {
		end  pds.Config
		want string
	}{
		{config(0, "0"), "0, 0 by  to 0, 0 for 4"},
		{config(1, "1 2"), "0, 0 by 0 to 1, 1 2 for 14"},
		{config(1, "2"), "0, 0 by 0 1 to 1, 2 for 15"},
		{config(2, "3"), "0, 0 by 0 1 2 to 2, 3 for 18"},
		{config(2, "1 3"), "0, 0 by 0 1 2 5 to 2, 1 3 for 18"},
		{config(2, "3 3 3"), "0, 0 3 3 by 0 1 2 to 2, 3 3 3 for 24"},
		{config(0, "0 3 3"), "0, 0 3 3 by  to 0, 0 3 3 for 10"},
	} {
		alike(t, configText(c.end), s, a, sample.Alone(3, c.end), 4, c.want)
	}
}

// P25.1: of several ends that of which both the way and the ends cost least.
func TestEnds(t *testing.T) {
	s, a := ring(), sample.Alone(3, config(0, "0"))
	ends := func(start, first, last uint64) paut.Auto {
		return made(3, 5, "4", edge(0, 0, 4, start), edge(1, 1, 3, first), edge(3, 2, 4, 0), edge(2, 3, 4, last))
	}
	alike(t, "the start itself", s, a, ends(20, 11, 7), 9, "0, 0 by  to 0, 0 for 20")
	alike(t, "behind one rule", s, a, ends(22, 11, 8), 9, "0, 0 by 0 to 1, 1 2 for 21")
	alike(t, "behind three", s, a, ends(22, 12, 7), 9, "0, 0 by 0 1 2 to 2, 3 for 21")
}

// P25.1: of several starts that of which both the way and the ends cost least.
func TestStarts(t *testing.T) {
	s := system(3, 2, rule(0, 0, 2, "0", 5), rule(1, 0, 2, "0", 1), rule(0, 1, 2, "1", 2))
	a := made(3, 5, "4", edge(0, 0, 4, 1), edge(1, 0, 4, 6), edge(0, 1, 4, 3))
	alike(t, "the cheap start", s, a, made(3, 4, "3", edge(2, 0, 3, 0)), 1, "0, 0 by 0 to 2, 0 for 6")
	alike(t, "the cheap way", s, a, made(3, 4, "3", edge(2, 0, 3, 2), edge(2, 1, 3, 0)), 1, "0, 1 by 2 to 2, 1 for 5")
	a.Edges[1].Cost = 4
	alike(t, "the cheap way to the same end", s, a, made(3, 4, "3", edge(2, 0, 3, 0)), 1, "1, 0 by 1 to 2, 0 for 5")
}

// P25.1: where there is none, whatever most.
func TestNone(t *testing.T) {
	s, a, b := example()
	for _, most := range []int{math.MinInt, -1, 0, 7, math.MaxInt} {
		fails(t, "another end", s, a, made(2, 3, "2", edge(1, 5, 2, 0)), most, api.ErrNone, 0, 0)
		fails(t, "no end", s, a, made(2, 2, ""), most, api.ErrNone, 0, 0)
		fails(t, "no start", s, made(2, 3, "", edge(0, 5, 2, 3)), b, most, api.ErrNone, 0, 0)
		fails(t, "neither", s, made(2, 2, ""), made(2, 2, ""), most, api.ErrNone, 0, 0)
		fails(t, "no rules", system(2, 8), a, b, most, api.ErrNone, 0, 0)
		fails(t, "no states", pds.System{}, paut.Auto{}, paut.Auto{}, most, api.ErrNone, 0, 0)
		fails(t, "above the Base alone", pds.System{}, made(0, 1, "0"), made(0, 1, "0"), most, api.ErrNone, 0, 0)
	}
}

// P25.1: runs of no rules, whatever most.
func TestNoRules(t *testing.T) {
	a := made(2, 4, "1 3", edge(0, 5, 2, 3), edge(2, 127, 3, 1))
	b := made(2, 3, "1 2", edge(0, 5, 2, 4), edge(2, 127, 2, 2))
	for _, most := range []int{math.MinInt, -1, 0, 7, math.MaxInt} {
		alike(t, "without a stack", system(2, 8), a, b, most, "1,  by  to 1,  for 0")
		alike(t, "with one", system(2, 8), a, made(2, 3, "2", b.Edges...), most, "0, 5 127 by  to 0, 5 127 for 10")
	}
}

// P25.1: runs that are too long: of them the Cost is told, and no more.
func TestLong(t *testing.T) {
	s, b := sample.Halves(128), made(1, 1, "0")
	for way, fromEnd := range ways {
		a := sample.Alone(1, config(0, "10"))
		r, err := run.Between(s, a, b, fromEnd, 2047)
		checkNil(t, "just so many, "+way, err)
		check(t, "just so many, "+way, len(r.Rules) == 2047 && run.Good(s, a, b, r), true)
		for _, most := range []int{2048, 1 << 40, math.MaxInt} {
			again, err := run.Between(s, a, b, fromEnd, most)
			checkNil(t, "more, "+way, err)
			check(t, "the same, "+way, text(again), text(r))
		}
	}
	for most, at := range map[int]int{2046: 2046, 1: 1, 0: 0, -1: 0, math.MinInt: 0} {
		fails(t, strconv.Itoa(most), s, sample.Alone(1, config(0, "10")), b, most, api.ErrLong, at, 1024)
	}
	for label, cost := range map[int]uint64{30: 1 << 30, 62: 1 << 62, 63: api.MaxCost, 127: api.MaxCost} {
		for most, at := range map[int]int{1 << 20: 1 << 20, -5: 0} {
			fails(t, strconv.Itoa(label), s, sample.Alone(1, config(0, strconv.Itoa(label))), b, most, api.ErrLong, at, cost)
		}
	}
}

// P25.1: a run that costs less is told, however many rules it has.
func TestLeastIsLong(t *testing.T) {
	s := system(4, 1, rule(0, 0, 3, "0", 9), rule(0, 0, 1, "0", 2), rule(1, 0, 2, "0", 2), rule(2, 0, 3, "0", 2))
	a, b := made(4, 5, "4", edge(0, 0, 4, 1)), made(4, 5, "4", edge(3, 0, 4, 1))
	alike(t, "three rules", s, a, b, 3, "0, 0 by 1 2 3 to 3, 0 for 8")
	fails(t, "at most two", s, a, b, 2, api.ErrLong, 2, 8)
}

// P25.1: costs up to the greatest amount, past which none goes round.
func TestCostly(t *testing.T) {
	s := system(2, 2, rule(0, 0, 1, "0", api.MaxCost-1), rule(0, 1, 1, "1", api.MaxCost))
	for _, c := range []struct {
		label        int
		start, end   uint64
		rules, costs string
	}{
		{0, 0, 0, "0", "9223372036854775806"},
		{0, 0, 1, "0", "9223372036854775807"},
		{0, 1, 0, "0", "9223372036854775807"},
		{0, api.MaxCost, api.MaxCost, "0", "9223372036854775807"},
		{1, 0, 0, "1", "9223372036854775807"},
		{1, 1, 1, "1", "9223372036854775807"},
		{1, api.MaxCost, 5, "1", "9223372036854775807"},
	} {
		label := strconv.Itoa(c.label)
		a, b := made(2, 3, "2", edge(0, c.label, 2, c.start)), made(2, 3, "2", edge(1, c.label, 2, c.end))
		alike(t, "the label "+label, s, a, b, 1, "0, "+label+" by "+c.rules+" to 1, "+label+" for "+c.costs)
	}
}

// P25.1: rounds that cost nothing come to an end.
func TestRounds(t *testing.T) {
	s := system(2, 1, rule(0, 0, 0, "0", 0), rule(0, 0, 0, "0 0", 0), rule(0, 0, 1, "0", 0), rule(1, 0, 0, "0", 0), rule(1, 0, 1, "", 0))
	a := made(2, 3, "2", edge(0, 0, 2, 0))
	alike(t, "once", s, a, sample.Alone(2, config(1, "0")), 1, "0, 0 by 2 to 1, 0 for 0")
	alike(t, "down", s, a, made(2, 2, "1"), 2, "0, 0 by 2 4 to 1,  for 0")
	alike(t, "up", s, a, sample.Alone(2, config(0, "0 0 0")), 2, "0, 0 by 1 1 to 0, 0 0 0 for 0")
}

// P25.1: as many states as there may be, and a long way.
func TestMany(t *testing.T) {
	states := 1 << 20
	s := system(states, 128)
	for state := range 20000 {
		s.Rules = append(s.Rules, rule(states-1-state, 127, states-2-state, "127 3", 1))
	}
	last := 1<<21 - 1
	a := made(states, 1<<21, strconv.Itoa(last), edge(states-1, 127, last, 5))
	b := made(states, states+2, strconv.Itoa(states+1), edge(states-1-20000, 127, states, 6), edge(states, 3, states, 0), edge(states, 3, states+1, 2))
	for way, fromEnd := range ways {
		r, err := run.Between(s, a, b, fromEnd, 20000)
		checkNil(t, way, err)
		check(t, way, len(r.Rules) == 20000 && r.Cost == 20013 && run.Good(s, a, b, r), true)
	}
}

// P25.2: what is good, and what isn't.
func TestGood(t *testing.T) {
	s := ring()
	a := made(3, 5, "3 4", edge(0, 0, 3, 4), edge(1, 1, 3, 1), edge(3, 2, 4, 0))
	b := made(3, 6, "1 5", edge(1, 1, 4, 5), edge(4, 2, 5, 6), edge(2, 3, 5, 8), edge(1, 2, 5, 2))
	good := run.Run{Start: config(0, "0"), End: config(2, "3"), Rules: []int{0, 1, 2}, Cost: 26}
	for what, c := range map[string]struct {
		change func(r *run.Run)
		want   bool
	}{
		"good":                       {func(r *run.Run) {}, true},
		"another rule":               {func(r *run.Run) { r.Rules = []int{0, 4, 2}; r.Cost = 27 }, true},
		"another rule's cost":        {func(r *run.Run) { r.Rules = []int{0, 4, 2} }, false},
		"one that isn't the least":   {func(r *run.Run) { r.Rules, r.End, r.Cost = list(0), config(1, "1 2"), 25 }, true},
		"more rules":                 {func(r *run.Run) { r.Rules = list(0, 1, 2, 3, 0, 1, 2); r.Cost = 47 }, true},
		"no rules":                   {func(r *run.Run) { *r = run.Run{Start: config(1, "1 2"), End: config(1, "1 2"), Cost: 12} }, true},
		"a cost below":               {func(r *run.Run) { r.Cost-- }, false},
		"a cost above":               {func(r *run.Run) { r.Cost++ }, false},
		"no cost":                    {func(r *run.Run) { r.Cost = 0 }, false},
		"the rules' cost":            {func(r *run.Run) { r.Cost = 14 }, false},
		"another start":              {func(r *run.Run) { r.Start.State = 1 }, false},
		"a start with another stack": {func(r *run.Run) { r.Start.Stack = list(0, 2) }, false},
		"a start without a stack":    {func(r *run.Run) { r.Start.Stack = nil }, false},
		"another end":                {func(r *run.Run) { r.End.State = 1 }, false},
		"an end with another stack":  {func(r *run.Run) { r.End.Stack = list(3, 3) }, false},
		"an end that b has":          {func(r *run.Run) { r.End = config(1, "1 2") }, false},
		"too few rules":              {func(r *run.Run) { r.Rules = list(0, 1) }, false},
		"too many rules":             {func(r *run.Run) { r.Rules = list(0, 1, 2, 3) }, false},
		"a rule that can't be done":  {func(r *run.Run) { r.Rules = list(0, 2, 1) }, false},
		"a rule that isn't there":    {func(r *run.Run) { r.Rules = list(0, 1, 2, 6) }, false},
		"rules far off":              {func(r *run.Run) { r.Rules = list(math.MinInt, -1, math.MaxInt) }, false},
		"a start that a hasn't":      {func(r *run.Run) { *r = run.Run{Start: config(1, "2"), End: config(1, "2"), Cost: 2} }, false},
		"an end that b hasn't":       {func(r *run.Run) { *r = run.Run{Start: config(0, "0"), End: config(0, "0"), Cost: 4} }, false},
		"nothing":                    {func(r *run.Run) { *r = run.Run{} }, false},
		"states far off":             {func(r *run.Run) { r.Start.State, r.End.State = math.MinInt, math.MaxInt }, false},
		"labels far off":             {func(r *run.Run) { r.Start.Stack, r.End.Stack = list(-1), list(math.MaxInt, 128) }, false},
	} {
		r := good
		r.Rules = slices.Clone(good.Rules)
		c.change(&r)
		check(t, what, run.Good(s, a, b, r), c.want)
	}
	r := run.Run{Start: config(0, "0"), End: config(1, "1 2"), Rules: list(0), Cost: 25}
	check(t, "the two turned about", run.Good(s, b, a, r), false)
	check(t, "of no rules", run.Good(system(3, 4), a, b, r), false)
	check(t, "of nothing", run.Good(pds.System{}, paut.Auto{}, paut.Auto{}, run.Run{}), false)
	check(t, "without a stack", run.Good(s, made(3, 3, "1"), b, run.Run{Start: config(1, ""), End: config(1, "")}), true)
}

// list: of these.
func list(l ...int) []int { return l }

// P25.2: costs in a, of the run and in b end at the greatest amount.
func TestGoodCostly(t *testing.T) {
	s := system(2, 1, rule(0, 0, 1, "0", api.MaxCost-1))
	r := run.Run{Start: config(0, "0"), End: config(1, "0"), Rules: list(0)}
	for _, c := range []struct{ start, end, cost uint64 }{
		{0, 0, api.MaxCost - 1}, {1, 0, api.MaxCost}, {0, 1, api.MaxCost}, {1, 1, api.MaxCost}, {api.MaxCost, api.MaxCost, api.MaxCost},
	} {
		a, b := made(2, 3, "2", edge(0, 0, 2, c.start)), made(2, 3, "2", edge(1, 0, 2, c.end))
		r.Cost = c.cost
		check(t, "what it costs", run.Good(s, a, b, r), true)
		r.Cost--
		check(t, "one less", run.Good(s, a, b, r), false)
	}
}

// P25.2: labels below both stacks.
func TestShift(t *testing.T) {
	r := run.Run{Start: config(0, "5 7"), End: config(1, ""), Rules: list(3, 0), Cost: 9}
	for _, c := range []struct {
		below []int
		want  string
	}{
		{nil, "0, 5 7 by 3 0 to 1,  for 9"},
		{list(), "0, 5 7 by 3 0 to 1,  for 9"},
		{list(6), "0, 5 7 6 by 3 0 to 1, 6 for 9"},
		{list(6, 5, 6), "0, 5 7 6 5 6 by 3 0 to 1, 6 5 6 for 9"},
		{list(-1, 128, math.MaxInt), "0, 5 7 -1 128 9223372036854775807 by 3 0 to 1, -1 128 9223372036854775807 for 9"},
	} {
		check(t, sample.Numbers(c.below), text(run.Shift(r, c.below)), c.want)
	}
	check(t, "nothing below nothing", text(run.Shift(run.Run{}, nil)), noRun)
	check(t, "below nothing", text(run.Shift(run.Run{}, list(4))), "0, 4 by  to 0, 4 for 0")
	check(t, "again", text(run.Shift(run.Shift(r, list(1)), list(2, 3))), text(run.Shift(r, list(1, 2, 3))))
	far := run.Run{Start: config(-3, "1"), End: config(math.MinInt, "2"), Rules: list(-7), Cost: math.MaxUint64}
	check(t, "whatever else it is", text(run.Shift(far, list(9))), "-3, 1 9 by -7 to -9223372036854775808, 2 9 for 18446744073709551615")
}

// isLess: does the one that is there cost less than the other one, or is that not there?
func isLess(a uint64, b uint64, ok bool) bool { return !ok || a < b }

// sought: the least of what runs from a to b come to, among those over stacks up to
// a height.
func sought(s pds.System, a, b paut.Auto, height int) (uint64, bool) {
	costs, wait := map[string]uint64{}, []pds.Config{}
	least, has := uint64(0), false
	put := func(c pds.Config, cost uint64) {
		old, ok := costs[configText(c)]
		if len(c.Stack) > height || !isLess(cost, old, ok) {
			return
		}
		costs[configText(c)] = cost
		wait = append(wait, c)
		if end, ok := b.Least(c); ok && isLess(amount.Add(cost, end), least, has) {
			least, has = amount.Add(cost, end), true
		}
	}
	for _, stack := range sample.Stacks(3, 2) {
		for state := range s.States {
			c := pds.Config{State: state, Stack: stack}
			if cost, ok := a.Least(c); ok {
				put(c, cost)
			}
		}
	}
	for len(wait) > 0 {
		c := wait[0]
		wait = wait[1:]
		for _, i := range s.Steps(c) {
			next, by, _ := s.Do(c, i)
			put(next, amount.Add(costs[configText(c)], by))
		}
	}
	return least, has
}

// shown: P25.1 and P25.2, of a run that is told: it is good, the same each time, too
// long for fewer rules, and its shift can be done.
func shown(t *testing.T, what string, s pds.System, a, b paut.Auto, fromEnd bool, r run.Run) {
	t.Helper()
	check(t, what+": is it good?", run.Good(s, a, b, r), true)
	again, err := run.Between(s, a, b, fromEnd, len(r.Rules))
	checkNil(t, what+": again", err)
	check(t, what+": again", text(again), text(r))
	if len(r.Rules) > 0 {
		again, err = run.Between(s, a, b, fromEnd, len(r.Rules)-1)
		checkFault(t, what, again, err, api.ErrLong, len(r.Rules)-1, r.Cost)
	}
	r.Cost++
	check(t, what+": one more", run.Good(s, a, b, r), false)
	below := run.Shift(r, list(1, 0))
	end, _, err := s.Do(below.Start, below.Rules...)
	checkNil(t, what+": its shift", err)
	check(t, what+": its shift", configText(end), configText(below.End))
}

// ends: any automaton, or one that has just one configuration.
func ends(r *rand.Rand, base int) paut.Auto {
	if r.Intn(4) == 0 {
		return sample.Pick(r.Intn).Auto(base)
	}
	stacks := sample.Stacks(3, 2)
	return sample.Alone(base, pds.Config{State: r.Intn(base), Stack: stacks[r.Intn(len(stacks))]})
}

// P25.1 to P25.3: of any systems and automata: both ways tell the same Cost, what is
// told is good, and no run that is sought costs less.
func TestAny(t *testing.T) {
	r := rand.New(rand.NewSource(251))
	has, long, least := 0, 0, 0
	for range 8000 {
		s := sample.Pick(r.Intn).System()
		a, b := ends(r, s.States), ends(r, s.States)
		what := sample.SystemText(s) + " from " + autoText(a) + " to " + autoText(b)
		back, err := run.Between(s, a, b, true, 1000)
		on, other := run.Between(s, a, b, false, 1000)
		check(t, what+": the error", oops.Same(err, other), true)
		check(t, what+": both ways", on.Cost, back.Cost)
		check(t, "what was handed in", sample.SystemText(s)+" from "+autoText(a)+" to "+autoText(b), what)
		cost, ok := sought(s, a, b, 5)
		if err != nil {
			check(t, what+": is there one?", ok, false)
			fails(t, what, s, a, b, 1000, api.ErrNone, 0, 0)
			continue
		}
		if ok && cost < on.Cost {
			t.Errorf("%s: %d costs more than %d", what, on.Cost, cost)
		}
		shown(t, what+", back", s, a, b, true, back)
		shown(t, what+", on", s, a, b, false, on)
		rules, _ := pre.Of(s, b).Run(back.Start, 1000)
		check(t, what+": by layer 23", sample.Numbers(back.Rules), sample.Numbers(rules))
		_, rules, _ = post.Of(s, a).Run(on.End, 1000)
		check(t, what+": by layer 24", sample.Numbers(on.Rules), sample.Numbers(rules))
		has++
		if ok && cost == on.Cost {
			least++
		}
		if len(on.Rules) > 3 {
			long++
		}
	}
	check(t, "some of each: "+sample.Numbers(list(has, long, least)), has > 1000 && long > 100 && least > 1000, true)
}

// Memory: answers are new each time, and nothing that is handed in is changed or
// shared.
func TestMemory(t *testing.T) {
	s := ring()
	a, b := made(3, 5, "3 4", edge(0, 0, 3, 4), edge(3, 2, 4, 0)), made(3, 5, "4", edge(2, 3, 4, 0), edge(0, 0, 4, 90), edge(0, 0, 3, 90), edge(3, 2, 4, 0))
	a.Edges = append(make([]paut.Edge, 0, 20), a.Edges...)
	b.Edges = append(make([]paut.Edge, 0, 20), b.Edges...)
	s.Rules = append(make([]pds.Rule, 0, 20), s.Rules...)
	was := sample.SystemText(s) + autoText(a) + autoText(b)
	for way, fromEnd := range ways {
		for _, c := range []paut.Auto{b, a} {
			one, err := run.Between(s, a, c, fromEnd, 99)
			checkNil(t, way, err)
			other, _ := run.Between(s, a, c, fromEnd, 99)
			want := text(one)
			scribble(one)
			check(t, way+": two answers", text(other), want)
			check(t, way+": what was handed in", sample.SystemText(s)+autoText(a)+autoText(b), was)
			apart(t, way, other)
		}
	}
	check(t, "spare room", text(run.Run{Rules: list(a.Edges[:3][2].To, b.Edges[:5][4].To, s.Rules[:7][6].To)}), "0,  by 0 0 0 to 0,  for 0")
}

// scribble: other numbers in all of a run's lists, and behind them.
func scribble(r run.Run) {
	for _, l := range [][]int{r.Start.Stack, r.End.Stack, r.Rules} {
		l = l[:cap(l)]
		for i := range l {
			l[i] = 77
		}
	}
}

// apart: do no two of a run's lists share any?
func apart(t *testing.T, what string, r run.Run) {
	t.Helper()
	lists := []*[]int{&r.Start.Stack, &r.End.Stack, &r.Rules}
	for _, l := range lists {
		was := *l
		*l = nil
		want := text(r)
		all := was[:cap(was)]
		for i := range all {
			all[i] = 88
		}
		check(t, what+": lists of one answer", text(r), want)
	}
}

// Memory: a shift is new memory, spare room included.
func TestShiftMemory(t *testing.T) {
	room := list(5, 7, 1, 1, 1, 1)
	ends, rules, below := list(6, 2, 2, 2), list(0, 3, 3), list(8, 9, 4, 4)
	r := run.Run{Start: pds.Config{State: 0, Stack: room[:2]}, End: pds.Config{State: 1, Stack: ends[:1]}, Rules: rules[:1], Cost: 3}
	for _, low := range [][]int{below[:2], nil} {
		one, other := run.Shift(r, low), run.Shift(r, low)
		want := text(other)
		scribble(one)
		check(t, "two answers", text(other), want)
		apart(t, "a shift", other)
		check(t, "what was handed in", sample.Numbers(slices.Concat(room, ends, rules, below)), "5 7 1 1 1 1 6 2 2 2 0 3 3 8 9 4 4")
	}
}

// What nothing is promised of ends, too.
func TestUnpromised(t *testing.T) {
	autos := []paut.Auto{{}, made(2, 2, "1"), made(2, 2, "1", edge(0, 0, 1, 0)), made(2, 1, "9 3"), made(1, 1, "", edge(-1, -5, 8, 0)), made(2, 3, "2", edge(0, -1, 2, 0)), made(3, 4, "3", edge(0, 0, 3, 0))}
	for _, s := range []pds.System{system(-1, 1), system(1, 1, rule(0, 0, 7, "3 3 3", 0)), system(2, 2, rule(0, 0, 1, "1", 0))} {
		for _, a := range autos {
			for _, b := range autos {
				for _, fromEnd := range ways {
					r, _ := run.Between(s, a, b, fromEnd, 5)
					run.Good(s, a, b, r)
				}
			}
		}
	}
}
