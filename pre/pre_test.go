package pre_test

import (
	"math"
	"math/rand"
	"slices"
	"strconv"
	"testing"

	"fairlead/amount"
	"fairlead/api"
	"fairlead/oops"
	"fairlead/paut"
	"fairlead/pds"
	"fairlead/pre"
	"fairlead/sample"
)

func check[T comparable](t *testing.T, what string, got, want T) {
	t.Helper()
	if got != want {
		t.Errorf("%s: got %v, want %v", what, got, want)
	}
}

// checkNil: is it no error?
func checkNil(t *testing.T, what string, err error) {
	t.Helper()
	if err != nil {
		t.Errorf("%s: %v, want nil", what, err)
	}
}

// checkFault: is it just a fault there, within no words, beside no rules?
func checkFault(t *testing.T, what string, rules []int, err error, code api.Errno, at int) {
	t.Helper()
	want := oops.New(code, at)
	if err == nil || !oops.Same(err, want) || err.Error() != want.Error() || len(rules) != 0 {
		t.Errorf("%s: %v, %v, want %v", what, rules, err, want)
	}
}

// What package sample makes, and tells.
var (
	config     = sample.Config
	configText = sample.ConfigText
	rule       = sample.Rule
	system     = sample.System
	edge       = sample.Edge
	made       = sample.Auto
	autoText   = sample.AutoText
	least      = sample.Least
)

// run: the run from a configuration, as a text.
func run(t pre.Sat, c pds.Config, most int) string {
	rules, err := t.Run(c, most)
	if err != nil {
		return err.Error()
	}
	return "by " + sample.Numbers(rules)
}

// P23.1, P23.2: the chapter's example.
func TestExample(t *testing.T) {
	sat := pre.Of(system(2, 8, rule(0, 5, 1, "", 2)), made(2, 3, "2", edge(1, 7, 2, 3)))
	a := sat.Auto()
	checkNil(t, "it may be", a.Check())
	check(t, "its Base", a.Base, 2)
	check(t, "the example", least(a, config(0, "5 7")), "5")
	check(t, "what was there", least(a, config(1, "7")), "3")
	check(t, "the label alone", least(a, config(0, "5")), "none")
	check(t, "another one below", least(a, config(0, "5 5")), "none")
	check(t, "another state", least(a, config(1, "5 7")), "none")
	check(t, "its run", run(sat, config(0, "5 7"), 1), "by 0")
	check(t, "the run of what was there", run(sat, config(1, "7"), 0), "by ")
}

// some: rules of none, one and two labels, in a ring, and an automaton that has
// 2, 1 0 at 4 and 0 without a stack.
func some() (pds.System, paut.Auto) {
	s := system(3, 3,
		rule(0, 0, 1, "1 2", 10),
		rule(1, 1, 1, "", 1),
		rule(1, 2, 2, "1", 3),
		rule(2, 0, 0, "", 7),
		rule(1, 1, 1, "", 2),
		rule(2, 1, 2, "", 0),
		rule(2, 2, 2, "1 0", 0),
	)
	return s, made(3, 5, "0 4", edge(2, 1, 3, 4), edge(3, 0, 4, 0))
}

// P23.1, P23.2: rules of each kind, one behind the other.
func TestKinds(t *testing.T) {
	sat := pre.Of(some())
	for _, c := range []struct {
		c         pds.Config
		cost, run string
	}{
		{config(2, "1 0"), "4", "by "},
		{config(2, "2"), "4", "by 6"},
		{config(1, "2 0"), "7", "by 2"},
		{config(1, "1 1 2 0"), "9", "by 1 1 2"},
		{config(0, "0 0"), "18", "by 0 1 2"},
		{config(0, ""), "0", "by "},
		{config(2, "0"), "7", "by 3"},
		{config(2, "1 1 0"), "4", "by 5"},
		{config(1, "2 1 0"), "7", "by 2 5"},
		{config(0, "0 1 1 1 0"), "18", "by 0 1 2 5 5 5"},
		{config(2, "0 0 0"), "25", "by 3 0 1 2"},
		{config(1, "1 2"), "none", "error 11 at 0"},
		{config(0, "0"), "none", "error 11 at 0"},
	} {
		what := configText(c.c)
		check(t, what, least(sat.Auto(), c.c), c.cost)
		check(t, what+": its run", run(sat, c.c, 9), c.run)
	}
}

// P23.2: of what the automaton hasn't, whatever most.
func TestRunNone(t *testing.T) {
	sat := pre.Of(some())
	for _, c := range []pds.Config{
		config(2, ""), config(0, "1"), config(1, "0"), config(3, "0"), config(4, ""), config(-1, "1 0"), config(math.MaxInt, ""), config(math.MinInt, "0"),
		config(2, "-1 1 0"), config(2, "1 -1"), config(2, "128"), config(2, "1 0 127"), config(0, "-1"), {State: 2, Stack: []int{math.MaxInt, math.MinInt}},
	} {
		for _, most := range []int{math.MinInt, 0, 9, math.MaxInt} {
			rules, err := sat.Run(c, most)
			checkFault(t, configText(c), rules, err, api.ErrNone, 0)
		}
	}
}

// P23.2: runs that are too long, and the same one, whatever most.
func TestRunLong(t *testing.T) {
	sat := pre.Of(sample.Halves(128), made(1, 1, "0"))
	c := config(0, "10")
	check(t, "what it costs", least(sat.Auto(), c), "1024")
	rules, err := sat.Run(c, 2047)
	checkNil(t, "just so many", err)
	check(t, "how many", len(rules), 2047)
	for _, most := range []int{2048, 1 << 40, math.MaxInt} {
		again, err := sat.Run(c, most)
		checkNil(t, "more", err)
		check(t, "the same", slices.Equal(again, rules), true)
	}
	for most, at := range map[int]int{2046: 2046, 1: 1, 0: 0, -1: 0, math.MinInt: 0} {
		rules, err := sat.Run(c, most)
		checkFault(t, strconv.Itoa(most), rules, err, api.ErrLong, at)
	}
	for most, at := range map[int]int{1 << 20: 1 << 20, -5: 0} {
		for _, label := range []string{"40", "62", "63", "64", "127", "127 127"} {
			rules, err := sat.Run(config(0, label), most)
			checkFault(t, label, rules, err, api.ErrLong, at)
		}
	}
	check(t, "of two labels", run(sat, config(0, "1 0"), 4), "by 1 0 0 0")
	check(t, "of none", run(sat, config(0, ""), -3), "by ")
	check(t, "up to the greatest amount", least(sat.Auto(), config(0, "127")), "9223372036854775807")
	check(t, "nearly up to it", least(sat.Auto(), config(0, "62")), "4611686018427387904")
}

// P23.1: rounds that cost nothing, and rules that lead nowhere, come to an end.
func TestRounds(t *testing.T) {
	s := system(2, 2,
		rule(0, 0, 0, "0", 0),
		rule(0, 0, 0, "0 0", 0),
		rule(0, 0, 1, "0", 0),
		rule(1, 0, 0, "0", 0),
		rule(1, 0, 1, "1 1", 0),
		rule(0, 0, 0, "", 0),
	)
	sat := pre.Of(s, made(2, 3, "2", edge(1, 0, 2, 0)))
	check(t, "what was there", run(sat, config(1, "0"), 0), "by ")
	check(t, "one step", run(sat, config(0, "0"), 1), "by 2")
	check(t, "several", run(sat, config(0, "0 0 0"), 3), "by 5 5 2")
	check(t, "a label that has no rule", run(sat, config(0, "1"), 3), "error 11 at 0")
	sat = pre.Of(s, made(2, 2, ""))
	check(t, "to nothing", run(sat, config(0, "0"), 3), "error 11 at 0")
	checkNil(t, "it may be", sat.Auto().Check())
}

// P23.1: costs up to the greatest amount, past which none goes round.
func TestCostly(t *testing.T) {
	s := system(2, 3,
		rule(0, 0, 1, "1", api.MaxCost),
		rule(0, 0, 1, "1 2", api.MaxCost-1),
		rule(0, 1, 1, "1", api.MaxCost-4),
	)
	sat := pre.Of(s, made(2, 3, "2", edge(1, 1, 2, 3), edge(2, 2, 2, 0), edge(0, 0, 2, api.MaxCost)))
	checkNil(t, "it may be", sat.Auto().Check())
	check(t, "above", least(sat.Auto(), config(0, "0")), "9223372036854775807")
	check(t, "just below", least(sat.Auto(), config(0, "1")), "9223372036854775806")
	check(t, "just below, by its run", run(sat, config(0, "1"), 1), "by 2")
	check(t, "what was there", least(sat.Auto(), config(1, "1 2 2")), "3")
}

// P23.1: of nothing at all.
func TestNothing(t *testing.T) {
	for _, base := range []int{0, 1, 1 << 20} {
		sat := pre.Of(pds.System{States: base}, made(base, base, ""))
		check(t, "its Base", sat.Auto().Base, base)
		checkNil(t, "it may be", sat.Auto().Check())
		check(t, "what it has", run(sat, config(0, ""), 5), "error 11 at 0")
	}
	sat := pre.Of(pds.System{}, made(0, 2, "1", edge(0, 0, 1, 0)))
	check(t, "no states of a system", run(sat, config(0, "0"), 5), "error 11 at 0")
}

// P23.1: labels that the system hasn't, below those that it has.
func TestOtherLabels(t *testing.T) {
	sat := pre.Of(system(1, 1, rule(0, 0, 0, "", 1)), made(1, 3, "2", edge(0, 127, 1, 1), edge(1, 100, 2, 1), edge(1, 127, 2, 5)))
	check(t, "alone", least(sat.Auto(), config(0, "127 100")), "2")
	check(t, "below others", least(sat.Auto(), config(0, "0 0 127 127")), "8")
	check(t, "by its run", run(sat, config(0, "0 0 127 127"), 2), "by 0 0")
}

// P23.1: as many states as there may be, and long ways.
func TestMany(t *testing.T) {
	states := 1 << 20
	s := system(states, 128)
	for state := range 100000 {
		s.Rules = append(s.Rules, rule(states-1-state, 127, states-2-state, "127", 1))
	}
	s.Rules = append(s.Rules, rule(states-1-100000, 127, 0, "3 4", 1))
	sat := pre.Of(s, made(states, 1<<21, strconv.Itoa(1<<21-1), edge(0, 3, states, 5), edge(states, 4, 1<<21-1, 6)))
	c := config(states-1, "127")
	check(t, "what it costs", least(sat.Auto(), c), "100012")
	rules, err := sat.Run(c, 100001)
	checkNil(t, "its run", err)
	check(t, "how many rules", len(rules), 100001)
	checkNil(t, "it may be", sat.Auto().Check())
}

// costs: what a configuration costs; false, where it isn't there.
type costs func(c pds.Config) (uint64, bool)

// isLess: does the one that is there cost less than the other one, or is that not there?
func isLess(a uint64, b uint64, ok bool) bool { return !ok || a < b }

// closed: P23.3, at one configuration.
func closed(t *testing.T, what string, s pds.System, a, sat costs, c pds.Config) {
	t.Helper()
	cost, ok := sat(c)
	if was, isThere := a(c); isThere && isLess(was, cost, ok) {
		t.Errorf("%s: %s cost no more than %d", what, configText(c), was)
	}
	for _, i := range s.Steps(c) {
		next, by, _ := s.Do(c, i)
		if more, isThere := sat(next); isThere && isLess(amount.Add(more, by), cost, ok) {
			t.Errorf("%s: %s costs no more than the rule %d and what then comes", what, configText(c), i)
		}
	}
}

// shown: P23.2, at one configuration: how many rules its run has.
func shown(t *testing.T, what string, s pds.System, a paut.Auto, sat pre.Sat, c pds.Config, cost uint64) int {
	t.Helper()
	rules, err := sat.Run(c, math.MaxInt)
	checkNil(t, what+": the run", err)
	end, by, err := s.Do(c, rules...)
	checkNil(t, what+": what it does", err)
	rest, ok := a.Least(end)
	check(t, what+": its end was there", ok, true)
	check(t, what+": what it costs", amount.Add(by, rest), cost)
	again, err := sat.Run(c, len(rules))
	check(t, what+": the same", err == nil && slices.Equal(rules, again), true)
	if len(rules) > 0 {
		again, err = sat.Run(c, len(rules)-1)
		checkFault(t, what, again, err, api.ErrLong, len(rules)-1)
	}
	return len(rules)
}

// P23.1 to P23.3: of any systems and automata. No run and no automaton that was
// there costs less (by closed, rule for rule), and there is one that costs as much.
func TestAny(t *testing.T) {
	r := rand.New(rand.NewSource(231))
	stacks := sample.Stacks(3, 4)
	has, long := 0, 0
	for range 4000 {
		s := sample.Pick(r.Intn).System()
		a := sample.Pick(r.Intn).Auto(s.States)
		what := sample.SystemText(s) + " and " + autoText(a)
		sat := pre.Of(s, a)
		made := sat.Auto()
		check(t, "what was handed in", sample.SystemText(s)+" and "+autoText(a), what)
		checkNil(t, what+": it may be", made.Check())
		check(t, what+": its Base", made.Base, s.States)
		check(t, what+": the same each time", autoText(pre.Of(s, a).Auto()), autoText(made))
		for range 12 {
			c := pds.Config{State: r.Intn(s.States), Stack: stacks[r.Intn(len(stacks))]}
			closed(t, what, s, a.Least, made.Least, c)
			cost, ok := made.Least(c)
			if !ok {
				rules, err := sat.Run(c, 100)
				checkFault(t, what, rules, err, api.ErrNone, 0)
				continue
			}
			has++
			if shown(t, what+": "+configText(c), s, a, sat, c, cost) > 4 {
				long++
			}
		}
	}
	check(t, "some of each", has > 5000 && long > 1000, true)
}

// P23.1: just if a run leads there: sought among all runs, as far as stacks stay low.
func TestSought(t *testing.T) {
	r := rand.New(rand.NewSource(232))
	least := 0
	for range 300 {
		s := sample.Pick(r.Intn).System()
		a := sample.Pick(r.Intn).Auto(s.States)
		sat := pre.Of(s, a).Auto()
		for _, stack := range sample.Stacks(2, 2) {
			c := pds.Config{State: r.Intn(s.States), Stack: stack}
			got, isThere := sat.Least(c)
			cost, ok := sought(s, a, c, 6)
			if ok && (!isThere || got > cost) {
				t.Errorf("%s and %s: %s costs no more than %d", sample.SystemText(s), autoText(a), configText(c), cost)
			}
			if ok && got == cost {
				least++
			}
		}
	}
	check(t, "some of them", least > 500, true)
}

// sought: the least of what runs from a configuration, over stacks up to a height,
// and their ends come to.
func sought(s pds.System, a paut.Auto, c pds.Config, height int) (uint64, bool) {
	costs, configs, wait := map[string]uint64{configText(c): 0}, map[string]pds.Config{}, []pds.Config{c}
	for len(wait) > 0 {
		now := wait[0]
		wait = wait[1:]
		configs[configText(now)] = now
		for _, i := range s.Steps(now) {
			next, by, _ := s.Do(now, i)
			k, cost := configText(next), amount.Add(costs[configText(now)], by)
			if old, ok := costs[k]; len(next.Stack) <= height && isLess(cost, old, ok) {
				costs[k] = cost
				wait = append(wait, next)
			}
		}
	}
	least, has := uint64(0), false
	for k, c := range configs {
		if rest, ok := a.Least(c); ok && isLess(amount.Add(costs[k], rest), least, has) {
			least, has = amount.Add(costs[k], rest), true
		}
	}
	return least, has
}

// Memory: answers are new each time, and nothing that is handed in is kept or changed.
func TestMemory(t *testing.T) {
	s, a := some()
	s.Rules = append(make([]pds.Rule, 0, 20), s.Rules...)
	a.Edges = append(make([]paut.Edge, 0, 20), a.Edges...)
	a.Final = append(make([]int, 0, 20), a.Final...)
	sat := pre.Of(s, a)
	was, c := autoText(sat.Auto()), config(0, "0 0 0 0")
	way := run(sat, c, 99)
	for i := range s.Rules {
		for j := range s.Rules[i].Push {
			s.Rules[i].Push[j] = 1
		}
		s.Rules[i] = rule(0, 0, 0, "", 0)
	}
	for i := range a.Edges {
		a.Edges[i] = edge(0, 0, 4, 0)
	}
	a.Final[0], a.Final[1] = 1, 2
	check(t, "spare room", autoText(paut.Auto{Edges: a.Edges[2:3], Final: a.Final[2:3]}), "0 0; 0 0 0 0; 0")
	one, other := sat.Auto(), sat.Auto()
	for i := range one.Edges {
		one.Edges[i] = edge(1, 1, 1, 1)
	}
	one.Final[0] = 2
	check(t, "two answers", autoText(other), was)
	check(t, "what was handed in later", autoText(sat.Auto()), was)
	rules, err := sat.Run(c, 99)
	checkNil(t, "its run", err)
	clear(rules)
	clear(c.Stack)
	check(t, "the run", run(sat, config(0, "0 0 0 0"), 99), way)
}

// What nothing is promised of ends, too.
func TestUnpromised(t *testing.T) {
	pre.Sat{}.Auto()
	pre.Sat{}.Run(config(0, ""), 5)
	for _, s := range []pds.System{system(-1, 1), system(1, 1, rule(0, 0, 7, "3 3 3", 0)), system(2, 2, rule(0, 0, 1, "1 1 1", 0))} {
		for _, a := range []paut.Auto{{}, made(2, 2, "1"), made(2, 2, "1", edge(0, 0, 1, 0)), made(2, 1, "9 3"), made(1, 1, "", edge(-1, -5, 8, 0)), made(2, 3, "2", edge(0, -1, 2, 0))} {
			sat := pre.Of(s, a)
			sat.Auto()
			sat.Run(config(0, "0"), 5)
		}
	}
}
