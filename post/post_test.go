package post_test

import (
	"math"
	"math/rand"
	"slices"
	"strconv"
	"strings"
	"testing"

	"fairlead/amount"
	"fairlead/api"
	"fairlead/oops"
	"fairlead/paut"
	"fairlead/pds"
	"fairlead/post"
	"fairlead/pre"
	"fairlead/sample"
)

func check[T comparable](t *testing.T, what string, got, want T) {
	t.Helper()
	if got != want {
		t.Errorf("%s: got %v, want %v", what, got, want)
	}
}

// checkNil: is it no error?
func checkNil(t *testing.T, what string, err error) {
	t.Helper()
	if err != nil {
		t.Errorf("%s: %v, want nil", what, err)
	}
}

// checkFault: is it just a fault there, within no words, beside nothing else?
func checkFault(t *testing.T, what string, start pds.Config, rules []int, err error, code api.Errno, at int) {
	t.Helper()
	want := oops.New(code, at)
	if err == nil || !oops.Same(err, want) || err.Error() != want.Error() {
		t.Errorf("%s: %v, want %v", what, err, want)
	}
	check(t, what+": beside it", configText(start)+sample.Numbers(rules), "0, ")
}

// What package sample makes, and tells.
var (
	config     = sample.Config
	configText = sample.ConfigText
	rule       = sample.Rule
	system     = sample.System
	edge       = sample.Edge
	made       = sample.Auto
	autoText   = sample.AutoText
	least      = sample.Least
)

// run: the run to a configuration, as a text.
func run(t post.Sat, c pds.Config, most int) string {
	start, rules, err := t.Run(c, most)
	if err != nil {
		return err.Error()
	}
	return "from " + configText(start) + " by " + sample.Numbers(rules)
}

// P24.1, P24.2: the chapter's example.
func TestExample(t *testing.T) {
	sat := post.Of(system(2, 8, rule(0, 5, 1, "", 2)), made(2, 4, "3", edge(0, 5, 2, 3), edge(2, 7, 3, 0)))
	a := sat.Auto()
	checkNil(t, "it may be", a.Check())
	check(t, "its Base", a.Base, 2)
	check(t, "the example", least(a, config(1, "7")), "5")
	check(t, "what was there", least(a, config(0, "5 7")), "3")
	check(t, "no stack", least(a, config(1, "")), "none")
	check(t, "another label", least(a, config(1, "5")), "none")
	check(t, "both labels", least(a, config(1, "5 7")), "none")
	check(t, "another state", least(a, config(0, "7")), "none")
	check(t, "its run", run(sat, config(1, "7"), 1), "from 0, 5 7 by 0")
	check(t, "the run of what was there", run(sat, config(0, "5 7"), 0), "from 0, 5 7 by ")
}

// some: rules of none, one and two labels, in a ring, and an automaton that has
// 0, 0 and any number of 1 at 4, and 2 without a stack.
func some() (pds.System, paut.Auto) {
	s := system(3, 4,
		rule(0, 0, 1, "1 2", 10),
		rule(1, 1, 1, "", 1),
		rule(1, 2, 2, "3", 3),
		rule(2, 3, 0, "0", 7),
		rule(1, 1, 1, "", 2),
		rule(2, 1, 2, "", 0),
		rule(2, 3, 2, "1 3", 0),
		rule(2, 1, 1, "1 2", 1),
	)
	return s, made(3, 6, "2 4", edge(0, 0, 4, 4), edge(4, 1, 4, 0), edge(5, 1, 4, 0), edge(4, 2, 5, 0))
}

// P24.1, P24.2: rules of each kind, one behind the other.
func TestKinds(t *testing.T) {
	sat := post.Of(some())
	for _, c := range []struct {
		c         pds.Config
		cost, run string
	}{
		{config(0, "0"), "4", "from 0, 0 by "},
		{config(0, "0 1 1"), "4", "from 0, 0 1 1 by "},
		{config(2, ""), "0", "from 2,  by "},
		{config(1, "1 2"), "14", "from 0, 0 by 0"},
		{config(1, "2 1"), "15", "from 0, 0 1 by 0 1"},
		{config(2, "3"), "18", "from 0, 0 by 0 1 2"},
		{config(2, "1 3"), "18", "from 0, 0 by 0 1 2 6"},
		{config(1, "1 2 3"), "19", "from 0, 0 by 0 1 2 6 7"},
		{config(1, "2 3 1"), "20", "from 0, 0 1 by 0 1 2 6 7 1"},
		{config(2, "3 3"), "23", "from 0, 0 by 0 1 2 6 7 1 2"},
		{config(1, "2 1 1 1"), "15", "from 0, 0 1 1 1 by 0 1"},
		{config(2, "1"), "none", "error 11 at 0"},
		{config(1, "1"), "none", "error 11 at 0"},
	} {
		what := configText(c.c)
		check(t, what, least(sat.Auto(), c.c), c.cost)
		check(t, what+": its run", run(sat, c.c, 9), c.run)
	}
}

// P24.1: to a state without a stack, and what stood below.
func TestBare(t *testing.T) {
	s := system(3, 2, rule(0, 0, 1, "", 2), rule(1, 0, 2, "", 3), rule(1, 1, 1, "", 5))
	sat := post.Of(s, made(3, 5, "4", edge(0, 0, 3, 1), edge(0, 0, 4, 9), edge(3, 1, 3, 0), edge(3, 0, 4, 0)))
	check(t, "once", least(sat.Auto(), config(1, "")), "11")
	check(t, "once: its run", run(sat, config(1, ""), 1), "from 0, 0 by 0")
	check(t, "twice", least(sat.Auto(), config(2, "")), "6")
	check(t, "twice: its run", run(sat, config(2, ""), 2), "from 0, 0 0 by 0 1")
	check(t, "what stood below", least(sat.Auto(), config(1, "1 1 0")), "3")
	check(t, "what stood below: its run", run(sat, config(1, "1 1 0"), 1), "from 0, 0 1 1 0 by 0")
	check(t, "no more", run(sat, config(1, "1"), 9), "error 11 at 0")
	for _, e := range sat.Auto().Edges {
		check(t, "no edge to a state below Base", e.To >= 3, true)
	}
}

// P24.2: of what the automaton hasn't, whatever most.
func TestRunNone(t *testing.T) {
	sat := post.Of(some())
	for _, c := range []pds.Config{
		config(0, ""), config(2, "1"), config(1, "0"), config(3, "0"), config(4, ""), config(4, "1"), config(6, "2"), config(-1, "0"), config(math.MaxInt, ""),
		config(math.MinInt, "0"), config(2, "-1 3"), config(1, "1 -1"), config(2, "128"), config(2, "1 0 127"), config(0, "-1"), {State: 2, Stack: []int{math.MaxInt, math.MinInt}},
	} {
		for _, most := range []int{math.MinInt, 0, 9, math.MaxInt} {
			start, rules, err := sat.Run(c, most)
			checkFault(t, configText(c), start, rules, err, api.ErrNone, 0)
		}
	}
}

// P24.2: runs that are too long, and the same one, whatever most.
func TestRunLong(t *testing.T) {
	sat := post.Of(sample.Halves(128), sample.Alone(1, config(0, "10")))
	c := config(0, "")
	check(t, "what it costs", least(sat.Auto(), c), "1024")
	start, rules, err := sat.Run(c, 2047)
	checkNil(t, "just so many", err)
	check(t, "how many", configText(start)+" by "+strconv.Itoa(len(rules)), "0, 10 by 2047")
	for _, most := range []int{2048, 1 << 40, math.MaxInt} {
		start, again, err := sat.Run(c, most)
		checkNil(t, "more", err)
		check(t, "the same", configText(start) == "0, 10" && slices.Equal(again, rules), true)
	}
	for most, at := range map[int]int{2046: 2046, 1: 1, 0: 0, -1: 0, math.MinInt: 0} {
		start, rules, err := sat.Run(c, most)
		checkFault(t, strconv.Itoa(most), start, rules, err, api.ErrLong, at)
	}
	for most, at := range map[int]int{1 << 20: 1 << 20, -5: 0} {
		for _, label := range []int{40, 62, 63, 64, 127} {
			start, rules, err := post.Of(sample.Halves(128), sample.Alone(1, config(0, strconv.Itoa(label)))).Run(c, most)
			checkFault(t, strconv.Itoa(label), start, rules, err, api.ErrLong, at)
		}
	}
	check(t, "down to its last half", run(sat, config(0, "0 1"), 1023), "error 5 at 1023")
	check(t, "of none", run(sat, config(0, "10"), -3), "from 0, 10 by ")
	greatest := post.Of(sample.Halves(128), sample.Alone(1, config(0, "127"))).Auto()
	check(t, "up to the greatest amount", least(greatest, c), "9223372036854775807")
	check(t, "nearly up to it", least(post.Of(sample.Halves(128), sample.Alone(1, config(0, "62"))).Auto(), c), "4611686018427387904")
}

// P24.1: rounds that cost nothing, and rules that lead nowhere, come to an end.
func TestRounds(t *testing.T) {
	s := system(2, 2,
		rule(0, 0, 0, "0", 0),
		rule(0, 0, 0, "0 0", 0),
		rule(0, 0, 1, "0", 0),
		rule(1, 0, 0, "0", 0),
		rule(0, 0, 0, "", 0),
		rule(1, 1, 1, "1 1", 0),
	)
	sat := post.Of(s, made(2, 3, "2", edge(0, 0, 2, 0)))
	check(t, "what was there", run(sat, config(0, "0"), 0), "from 0, 0 by ")
	check(t, "one step", run(sat, config(1, "0"), 1), "from 0, 0 by 2")
	check(t, "several", run(sat, config(0, "0 0 0"), 2), "from 0, 0 by 1 1")
	check(t, "no stack", run(sat, config(0, ""), 1), "from 0, 0 by 4")
	check(t, "no stack, but for rounds", run(sat, config(1, ""), 9), "error 11 at 0")
	check(t, "a label that no rule lays there", run(sat, config(0, "1"), 3), "error 11 at 0")
	sat = post.Of(s, made(2, 3, "", edge(0, 0, 2, 0)))
	check(t, "from nothing", run(sat, config(0, "0"), 3), "error 11 at 0")
	checkNil(t, "it may be", sat.Auto().Check())
}

// P24.1: costs up to the greatest amount, past which none goes round.
func TestCostly(t *testing.T) {
	s := system(3, 3,
		rule(0, 0, 1, "1", api.MaxCost),
		rule(0, 0, 1, "1 2", api.MaxCost-1),
		rule(0, 0, 2, "1", api.MaxCost-4),
		rule(1, 1, 1, "", 1),
	)
	sat := post.Of(s, made(3, 4, "3", edge(0, 0, 3, 3)))
	checkNil(t, "it may be", sat.Auto().Check())
	check(t, "above", least(sat.Auto(), config(1, "1")), "9223372036854775807")
	check(t, "above, of two", least(sat.Auto(), config(1, "1 2")), "9223372036854775807")
	check(t, "above, of two and none", least(sat.Auto(), config(1, "2")), "9223372036854775807")
	check(t, "above, of two and none, by its run", run(sat, config(1, "2"), 2), "from 0, 0 by 1 3")
	check(t, "just below", least(sat.Auto(), config(2, "1")), "9223372036854775806")
	check(t, "what was there", least(sat.Auto(), config(0, "0")), "3")
}

// P24.1: rules that share the state below what they lay on top, at unlike costs,
// the one that costs less coming later.
func TestShared(t *testing.T) {
	s := system(4, 5,
		rule(0, 0, 3, "3 4", 1),
		rule(1, 1, 3, "3 4", 2),
		rule(3, 3, 3, "", 50),
		rule(3, 3, 2, "3", 1),
		rule(2, 3, 3, "", 1),
		rule(3, 4, 3, "", 0),
	)
	sat := post.Of(s, made(4, 7, "6", edge(0, 0, 4, 1), edge(4, 0, 6, 90), edge(1, 1, 5, 80), edge(5, 0, 6, 0)))
	check(t, "by the one that costs less in all", least(sat.Auto(), config(3, "4 0")), "84")
	check(t, "its run", run(sat, config(3, "4 0"), 3), "from 1, 1 0 by 1 3 4")
	check(t, "below", least(sat.Auto(), config(3, "0")), "84")
	check(t, "its run", run(sat, config(3, "0"), 4), "from 1, 1 0 by 1 3 4 5")
}

// P24.1: of nothing at all.
func TestNothing(t *testing.T) {
	for _, base := range []int{0, 1, 1 << 20} {
		sat := post.Of(pds.System{States: base}, made(base, base, ""))
		check(t, "its Base", sat.Auto().Base, base)
		checkNil(t, "it may be", sat.Auto().Check())
		check(t, "what it has", run(sat, config(0, ""), 5), "error 11 at 0")
	}
	sat := post.Of(pds.System{}, made(0, 2, "1", edge(0, 0, 1, 0)))
	check(t, "no states of a system", run(sat, config(0, "0"), 5), "error 11 at 0")
}

// P24.1: labels that the system hasn't, below those that it has.
func TestOtherLabels(t *testing.T) {
	s := system(1, 1, rule(0, 0, 0, "", 1))
	sat := post.Of(s, made(1, 3, "2", edge(0, 0, 1, 1), edge(1, 0, 1, 1), edge(1, 127, 2, 1), edge(0, 127, 2, 1)))
	check(t, "alone", least(sat.Auto(), config(0, "127")), "1")
	check(t, "below others", least(sat.Auto(), config(0, "0 127")), "2")
	sat = post.Of(s, made(1, 3, "2", edge(0, 0, 1, 1), edge(1, 0, 1, 1), edge(1, 127, 2, 1)))
	check(t, "what others left", least(sat.Auto(), config(0, "127")), "3")
	check(t, "by its run", run(sat, config(0, "127"), 1), "from 0, 0 127 by 0")
}

// P24.1: states of no use make room for those that are needed: those to which
// nothing comes from below Base, and those from which nothing comes to a Final one.
func TestRoom(t *testing.T) {
	s := system(1, 2, rule(0, 0, 0, "1 0", 1))
	unreached := []paut.Edge{edge(3, 0, 4, 0), edge(4, 0, 5, 0)}
	endless := []paut.Edge{edge(0, 0, 2, 0), edge(2, 0, 3, 0)}
	for what, more := range map[string][]paut.Edge{"none": nil, "unreached": unreached, "endless": endless} {
		sat := post.Of(s, made(1, 6, "4 5", append(more, edge(0, 0, 5, 7))...))
		check(t, what+": one that was there, and one of the rule", sat.Auto().States, 3)
		check(t, what, least(sat.Auto(), config(0, "1 0")), "8")
		checkNil(t, what, sat.Auto().Check())
	}
}

// P24.1: as many states as there may be, and long ways.
func TestMany(t *testing.T) {
	states := 1 << 20
	s := system(states, 128)
	for state := range 100000 {
		s.Rules = append(s.Rules, rule(states-1-state, 127, states-2-state, "127 3", 1))
	}
	last := 1<<21 - 1
	a := made(states, 1<<21, "5 "+strconv.Itoa(last), edge(states-1, 127, last-1, 5), edge(last-1, 4, last, 6), edge(last-1, 5, last-2, 6))
	sat := post.Of(s, a)
	checkNil(t, "it may be", sat.Auto().Check())
	c := config(states-1-100000, "127"+strings.Repeat(" 3", 100000)+" 4")
	check(t, "what it costs", least(sat.Auto(), c), "100011")
	start, rules, err := sat.Run(c, 100000)
	checkNil(t, "its run", err)
	check(t, "its run", configText(start)+" by "+strconv.Itoa(len(rules)), strconv.Itoa(states-1)+", 127 4 by 100000")
	check(t, "without a stack", run(sat, config(5, ""), 0), "from 5,  by ")
}

// costs: what a configuration costs; false, where it isn't there.
type costs func(c pds.Config) (uint64, bool)

// isLess: does the one that is there cost less than the other one, or is that not there?
func isLess(a uint64, b uint64, ok bool) bool { return !ok || a < b }

// closed: P24.3, at one configuration.
func closed(t *testing.T, what string, s pds.System, a, sat costs, c pds.Config) {
	t.Helper()
	cost, ok := sat(c)
	if was, isThere := a(c); isThere && isLess(was, cost, ok) {
		t.Errorf("%s: %s cost no more than %d", what, configText(c), was)
	}
	for _, i := range s.Steps(c) {
		next, by, _ := s.Do(c, i)
		if more, isThere := sat(next); ok && isLess(amount.Add(cost, by), more, isThere) {
			t.Errorf("%s: %s costs no more than %s and the rule %d", what, configText(next), configText(c), i)
		}
	}
}

// shown: P24.2, at one configuration: how many rules its run has.
func shown(t *testing.T, what string, s pds.System, a paut.Auto, sat post.Sat, c pds.Config, cost uint64) int {
	t.Helper()
	start, rules, err := sat.Run(c, math.MaxInt)
	checkNil(t, what+": the run", err)
	first, ok := a.Least(start)
	check(t, what+": its start was there", ok, true)
	end, by, err := s.Do(start, rules...)
	checkNil(t, what+": what it does", err)
	check(t, what+": its end", configText(end), configText(c))
	check(t, what+": what it costs", amount.Add(first, by), cost)
	again, same, err := sat.Run(c, len(rules))
	check(t, what+": the same", err == nil && pds.Same(start, again) && slices.Equal(rules, same), true)
	if len(rules) > 0 {
		again, same, err = sat.Run(c, len(rules)-1)
		checkFault(t, what, again, same, err, api.ErrLong, len(rules)-1)
	}
	return len(rules)
}

// P24.1 to P24.3: of any systems and automata. No automaton that was there and no
// run costs less (by closed, rule for rule), and there is one that costs as much.
func TestAny(t *testing.T) {
	r := rand.New(rand.NewSource(241))
	stacks := sample.Stacks(3, 4)
	has, long := 0, 0
	for range 6000 {
		s := sample.Pick(r.Intn).System()
		a := sample.Pick(r.Intn).Auto(s.States)
		what := sample.SystemText(s) + " and " + autoText(a)
		sat := post.Of(s, a)
		made := sat.Auto()
		check(t, "what was handed in", sample.SystemText(s)+" and "+autoText(a), what)
		checkNil(t, what+": it may be", made.Check())
		check(t, what+": its Base", made.Base, s.States)
		check(t, what+": no edge to a state below Base", slices.ContainsFunc(made.Edges, func(e paut.Edge) bool { return e.To < s.States }), false)
		check(t, what+": the same each time", autoText(post.Of(s, a).Auto()), autoText(made))
		for range 12 {
			c := pds.Config{State: r.Intn(s.States), Stack: stacks[r.Intn(len(stacks))]}
			closed(t, what, s, a.Least, made.Least, c)
			cost, ok := made.Least(c)
			if !ok {
				start, rules, err := sat.Run(c, 100)
				checkFault(t, what, start, rules, err, api.ErrNone, 0)
				continue
			}
			has++
			if shown(t, what+": "+configText(c), s, a, sat, c, cost) > 4 {
				long++
			}
		}
	}
	check(t, "some of each", has > 5000 && long > 500, true)
}

// P24.1: it costs as much to come on from one configuration to another one as
// layer 23 tells that it costs to come from there.
func TestBothWays(t *testing.T) {
	r := rand.New(rand.NewSource(242))
	stacks := sample.Stacks(2, 3)
	has := 0
	for range 6000 {
		s := sample.Pick(r.Intn).System()
		from := pds.Config{State: r.Intn(s.States), Stack: stacks[r.Intn(len(stacks))]}
		to := pds.Config{State: r.Intn(s.States), Stack: stacks[r.Intn(len(stacks))]}
		on := least(post.Of(s, sample.Alone(s.States, from)).Auto(), to)
		back := least(pre.Of(s, sample.Alone(s.States, to)).Auto(), from)
		check(t, sample.SystemText(s)+": from "+configText(from)+" to "+configText(to), on, back)
		if on != "none" {
			has++
		}
	}
	check(t, "some of them", has > 500, true)
}

// Memory: answers are new each time, and nothing that is handed in is kept or changed.
func TestMemory(t *testing.T) {
	s, a := some()
	s.Rules = append(make([]pds.Rule, 0, 20), s.Rules...)
	a.Edges = append(make([]paut.Edge, 0, 20), a.Edges...)
	a.Final = append(make([]int, 0, 20), a.Final...)
	sat := post.Of(s, a)
	was, c := autoText(sat.Auto()), config(1, "2 3 1")
	way := run(sat, c, 99)
	for i := range s.Rules {
		for j := range s.Rules[i].Push {
			s.Rules[i].Push[j] = 1
		}
		s.Rules[i] = rule(0, 0, 0, "", 0)
	}
	for i := range a.Edges {
		a.Edges[i] = edge(0, 0, 4, 0)
	}
	a.Final[0], a.Final[1] = 1, 2
	check(t, "spare room", autoText(paut.Auto{Edges: a.Edges[4:5], Final: a.Final[2:3]}), "0 0; 0 0 0 0; 0")
	one, other := sat.Auto(), sat.Auto()
	for i := range one.Edges {
		one.Edges[i] = edge(1, 1, 3, 1)
	}
	one.Final[0] = 0
	check(t, "two answers", autoText(other), was)
	check(t, "what was handed in later", autoText(sat.Auto()), was)
	start, rules, err := sat.Run(c, 99)
	checkNil(t, "its run", err)
	clear(rules)
	clear(start.Stack)
	check(t, "the run", run(sat, c, 99), way)
	start, _, err = sat.Run(config(0, "0 1 1"), 99)
	checkNil(t, "the run of what was there", err)
	clear(start.Stack)
	check(t, "what was there", run(sat, config(0, "0 1 1"), 99), "from 0, 0 1 1 by ")
}

// What nothing is promised of ends, too.
func TestUnpromised(t *testing.T) {
	post.Sat{}.Auto()
	post.Sat{}.Run(config(0, ""), 5)
	for _, s := range []pds.System{system(-1, 1), system(1, 1, rule(0, 0, 7, "3 3 3", 0)), system(2, 2, rule(0, 0, 1, "1 1 1", 0))} {
		for _, a := range []paut.Auto{{}, made(2, 2, "1"), made(2, 2, "1", edge(0, 0, 1, 0)), made(2, 1, "9 3"), made(1, 1, "", edge(-1, -5, 8, 0)), made(2, 3, "2", edge(0, -1, 2, 0))} {
			sat := post.Of(s, a)
			sat.Auto()
			sat.Run(config(0, "0"), 5)
		}
	}
}
