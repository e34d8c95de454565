package pds_test

import (
	"math"
	"math/rand"
	"slices"
	"strconv"
	"strings"
	"testing"

	"fairlead/amount"
	"fairlead/api"
	"fairlead/oops"
	"fairlead/pds"
)

func check[T comparable](t *testing.T, what string, got, want T) {
	t.Helper()
	if got != want {
		t.Errorf("%s: got %v, want %v", what, got, want)
	}
}

// checkNil: is it no error?
func checkNil(t *testing.T, what string, err error) {
	t.Helper()
	if err != nil {
		t.Errorf("%s: %v, want nil", what, err)
	}
}

// checkFault: is it just a fault there, within no words?
func checkFault(t *testing.T, what string, err error, code api.Errno, at int) {
	t.Helper()
	want := oops.New(code, at)
	if err == nil || !oops.Same(err, want) || err.Error() != want.Error() {
		t.Errorf("%s: %v, want %v", what, err, want)
	}
}

// numbers: a list's text, with blanks between.
func numbers(l []int) string {
	var words []string
	for _, i := range l {
		words = append(words, strconv.Itoa(i))
	}
	return strings.Join(words, " ")
}

// list: the numbers of a text.
func list(s string) []int {
	var l []int
	for _, word := range strings.Fields(s) {
		i, err := strconv.Atoi(word)
		if err != nil {
			panic(err)
		}
		l = append(l, i)
	}
	return l
}

// config: a state, and the stack of a text.
func config(state int, stack string) pds.Config { return pds.Config{State: state, Stack: list(stack)} }

// whole: all that a configuration is.
func whole(c pds.Config) string { return strconv.Itoa(c.State) + ", " + numbers(c.Stack) }

// rule: one whose Push is told by a text.
func rule(from, top, to int, push string, cost uint64) pds.Rule {
	return pds.Rule{From: from, Top: top, To: to, Push: list(push), Cost: cost}
}

// rulesText: all that rules are.
func rulesText(rules []pds.Rule) string {
	var words []string
	for _, r := range rules {
		words = append(words, numbers([]int{r.From, r.Top, r.To})+" ["+numbers(r.Push)+"] "+strconv.FormatUint(r.Cost, 10))
	}
	return strings.Join(words, "; ")
}

// done: what a run answers, with its error.
func done(s pds.System, c pds.Config, rules ...int) string {
	c, cost, err := s.Do(c, rules...)
	text := whole(c) + " for " + strconv.FormatUint(cost, 10)
	if err != nil {
		text += ": " + err.Error()
	}
	return text
}

// The form of the types.
func TestForm(t *testing.T) {
	s := pds.System{2, 7, []pds.Rule{{0, 5, 1, []int{6, 5}, 9}}}
	c := pds.Config{3, []int{4}}
	check(t, "rules", rulesText(s.Rules), "0 5 1 [6 5] 9")
	check(t, "a configuration", whole(c), "3, 4")
	check(t, "states and labels", s.States+s.Labels, 9)
}

// P21.1: systems that may be.
func TestCheckNil(t *testing.T) {
	checkNil(t, "the zero one", pds.System{}.Check())
	checkNil(t, "at its limits", pds.System{States: 1 << 20, Labels: api.MaxSet}.Check())
	checkNil(t, "without labels", pds.System{States: 3}.Check())
	checkNil(t, "without states", pds.System{Labels: 3}.Check())
	last := 1<<20 - 1
	checkNil(t, "with rules", pds.System{States: 1 << 20, Labels: 128, Rules: []pds.Rule{
		rule(0, 0, 0, "", 0),
		rule(last, 127, last, "127 127", api.MaxCost),
		rule(0, 127, last, "0", 1),
		rule(0, 127, last, "0", 1),
		{Push: []int{}},
	}}.Check())
}

// P21.1: too few, or too many, states and labels, whatever the rules.
func TestCheckCounts(t *testing.T) {
	bad := []pds.Rule{rule(-1, -1, -1, "-1 -1 -1", math.MaxUint64)}
	for _, c := range [][2]int{{-1, 0}, {0, -1}, {1<<20 + 1, 5}, {5, 129}, {math.MinInt, 1}, {1, math.MinInt}, {math.MaxInt, 1}, {1, math.MaxInt}} {
		for _, rules := range [][]pds.Rule{nil, bad} {
			err := pds.System{States: c[0], Labels: c[1], Rules: rules}.Check()
			checkFault(t, numbers(c[:]), err, api.ErrRange, -1)
		}
	}
}

// P21.1: the first rule that may not be, and its first fault.
func TestCheckRules(t *testing.T) {
	good := rule(2, 3, 0, "3 0", 5)
	for _, c := range []struct {
		what string
		bad  pds.Rule
		code api.Errno
	}{
		{"From below", rule(-1, 0, 0, "", 0), api.ErrRange},
		{"From above", rule(3, 0, 0, "", 0), api.ErrRange},
		{"To below", rule(0, 0, -1, "", 0), api.ErrRange},
		{"To above", rule(0, 0, 3, "", 0), api.ErrRange},
		{"Top below", rule(0, -1, 0, "", 0), api.ErrRange},
		{"Top above", rule(0, 4, 0, "", 0), api.ErrRange},
		{"Push below", rule(0, 0, 0, "-1", 0), api.ErrRange},
		{"Push above", rule(0, 0, 0, "4", 0), api.ErrRange},
		{"the second of Push", rule(0, 0, 0, "1 4", 0), api.ErrRange},
		{"the third of Push isn't there", rule(0, 0, 0, "1 2 4", 0), api.ErrRange},
		{"ends of numbers", rule(math.MaxInt, math.MinInt, 0, "", 0), api.ErrRange},
		{"three in Push", rule(0, 0, 0, "1 2 3", 0), api.ErrMany},
		{"many in Push", rule(0, 0, 0, "1 1 1 1 1 1 1 1", 0), api.ErrMany},
		{"the cost", rule(0, 0, 0, "", api.MaxCost+1), api.ErrCost},
		{"the greatest cost", rule(0, 0, 0, "1 1", math.MaxUint64), api.ErrCost},
		{"a range and all else", rule(3, 0, 0, "1 1 1", api.MaxCost+1), api.ErrRange},
		{"a label and all else", rule(0, 0, 0, "1 1 1 4", api.MaxCost+1), api.ErrRange},
		{"many, and the cost", rule(0, 0, 0, "1 1 1", api.MaxCost+1), api.ErrMany},
	} {
		s := pds.System{States: 3, Labels: 4, Rules: []pds.Rule{c.bad}}
		checkFault(t, c.what, s.Check(), c.code, 0)
		s.Rules = []pds.Rule{good, good, c.bad, good, rule(9, 9, 9, "", 0)}
		checkFault(t, c.what+", behind others", s.Check(), c.code, 2)
	}
	s := pds.System{States: 3, Labels: 4, Rules: []pds.Rule{good, rule(0, 0, 0, "", math.MaxUint64), rule(9, 0, 0, "", 0)}}
	checkFault(t, "the first rule comes first", s.Check(), api.ErrCost, 1)
}

// small: a system of two states, with all kinds of rules.
func small() pds.System {
	return pds.System{States: 3, Labels: 8, Rules: []pds.Rule{
		rule(0, 5, 1, "6 5", 2),
		rule(1, 6, 1, "", 3),
		rule(0, 5, 0, "7", 5),
		rule(1, 5, 0, "5", 0),
		rule(0, 5, 1, "6 5", 2),
		rule(0, 0, 2, "0 0", api.MaxCost),
		rule(2, 0, 2, "", 1),
	}}
}

// P21.2: which rules can be done.
func TestSteps(t *testing.T) {
	s := small()
	for _, c := range []struct {
		c    pds.Config
		want string
	}{
		{config(0, "5"), "0 2 4"},
		{config(0, "5 7 7"), "0 2 4"},
		{config(1, "6 5"), "1"},
		{config(1, "5 6"), "3"},
		{config(2, "0"), "6"},
		{config(0, "7 5"), ""},
		{config(2, "5"), ""},
		{config(0, ""), ""},
		{config(-1, "5"), ""},
		{config(0, "-1"), ""},
		{config(math.MaxInt, "5"), ""},
	} {
		check(t, whole(c.c), numbers(s.Steps(c.c)), c.want)
	}
	check(t, "the zero one", len(pds.System{}.Steps(config(0, "0"))), 0)
}

// P21.2: the chapter's example, and other runs.
func TestDo(t *testing.T) {
	s := small()
	check(t, "the example", done(s, config(0, "5 7"), 0), "1, 6 5 7 for 2")
	check(t, "of none", done(s, config(0, "5 7")), "0, 5 7 for 0")
	check(t, "of none, anywhere", done(s, config(-9, "")), "-9,  for 0")
	check(t, "taken away", done(s, config(1, "6 5"), 1), "1, 5 for 3")
	check(t, "to nothing", done(s, config(1, "6"), 1), "1,  for 3")
	check(t, "one in its place", done(s, config(0, "5 5 4"), 2), "0, 7 5 4 for 5")
	check(t, "three", done(s, config(0, "5 7"), 0, 1, 3), "0, 5 7 for 5")
	check(t, "round and round", done(s, config(0, "5 7"), 0, 1, 3, 4, 1, 3, 2), "0, 7 7 for 15")
	check(t, "up to the greatest amount", done(s, config(0, "0"), 5, 6), "2, 0 for 9223372036854775807")
	odd := pds.System{Rules: []pds.Rule{rule(-3, -2, 9, "1 2 3 4", math.MaxUint64)}}
	check(t, "of more than may be", done(odd, config(-3, "-2 -2"), 0), "9, 1 2 3 4 -2 for 9223372036854775807")
}

// P21.2: a rule that isn't there, or can't be done, and what was done ahead of it.
func TestDoFault(t *testing.T) {
	s := small()
	for _, c := range []struct {
		what  string
		c     pds.Config
		rules []int
		want  string
		code  api.Errno
		at    int
	}{
		{"above", config(0, "5"), []int{7}, "0, 5 for 0", api.ErrNone, 0},
		{"below", config(0, "5"), []int{-1}, "0, 5 for 0", api.ErrNone, 0},
		{"far above", config(0, ""), []int{math.MaxInt}, "0,  for 0", api.ErrNone, 0},
		{"far below", config(7, "1 2 3"), []int{math.MinInt}, "7, 1 2 3 for 0", api.ErrNone, 0},
		{"behind others", config(0, "5 1"), []int{0, 1, 7, 0}, "1, 5 1 for 5", api.ErrNone, 2},
		{"another state", config(2, "5"), []int{0}, "2, 5 for 0", api.ErrStep, 0},
		{"another top", config(0, "6"), []int{0}, "0, 6 for 0", api.ErrStep, 0},
		{"another top, with it below", config(0, "6 5"), []int{0}, "0, 6 5 for 0", api.ErrStep, 0},
		{"no stack", config(0, ""), []int{0}, "0,  for 0", api.ErrStep, 0},
		{"not any more", config(1, "6"), []int{1, 1}, "1,  for 3", api.ErrStep, 1},
		{"not as yet", config(0, "5"), []int{0, 1, 1, 3}, "1, 5 for 5", api.ErrStep, 2},
		{"a step, then none", config(0, "5"), []int{1, 9}, "0, 5 for 0", api.ErrStep, 0},
		{"none, then a step", config(0, "5"), []int{9, 1}, "0, 5 for 0", api.ErrNone, 0},
	} {
		got, cost, err := s.Do(c.c, c.rules...)
		check(t, c.what, whole(got)+" for "+strconv.FormatUint(cost, 10), c.want)
		checkFault(t, c.what, err, c.code, c.at)
	}
}

// naive: the run, with a new stack at each rule.
func naive(s pds.System, c pds.Config, rules []int) (pds.Config, uint64, error) {
	var costs []uint64
	for i, at := range rules {
		if at < 0 || at >= len(s.Rules) {
			return c, amount.Sum(costs...), oops.New(api.ErrNone, i)
		}
		r := s.Rules[at]
		if len(c.Stack) == 0 || r.From != c.State || r.Top != c.Stack[0] {
			return c, amount.Sum(costs...), oops.New(api.ErrStep, i)
		}
		c = pds.Config{State: r.To, Stack: slices.Concat(r.Push, c.Stack[1:])}
		costs = append(costs, r.Cost)
	}
	return c, amount.Sum(costs...), nil
}

// anySystem: one of a few states and labels, and of so many rules.
func anySystem(r *rand.Rand, rules int) pds.System {
	s := pds.System{States: 1 + r.Intn(3), Labels: 1 + r.Intn(3)}
	for range rules {
		x := pds.Rule{From: r.Intn(s.States), Top: r.Intn(s.Labels), To: r.Intn(s.States), Cost: uint64(r.Intn(5))}
		for range r.Intn(3) {
			x.Push = append(x.Push, r.Intn(s.Labels))
		}
		if r.Intn(20) == 0 {
			x.Cost = api.MaxCost - uint64(r.Intn(4))
		}
		s.Rules = append(s.Rules, x)
	}
	return s
}

// anyConfig: one of a system.
func anyConfig(r *rand.Rand, s pds.System) pds.Config {
	c := pds.Config{State: r.Intn(s.States)}
	for range r.Intn(7) {
		c.Stack = append(c.Stack, r.Intn(s.Labels))
	}
	return c
}

// anyRun: the places of rules, of which mostly each can be done behind those
// ahead of it.
func anyRun(r *rand.Rand, s pds.System, c pds.Config) []int {
	var rules []int
	for range r.Intn(8) {
		can := s.Steps(c)
		if len(can) == 0 || r.Intn(12) == 0 {
			return append(rules, r.Intn(len(s.Rules)+2)-1)
		}
		rules = append(rules, can[r.Intn(len(can))])
		c, _, _ = naive(s, c, rules[len(rules)-1:])
	}
	return rules
}

// P21.2: any runs of any systems; just those rules can be done that Steps tells.
func TestDoAny(t *testing.T) {
	r := rand.New(rand.NewSource(212))
	faults, long := 0, 0
	for range 20000 {
		s := anySystem(r, r.Intn(9))
		checkNil(t, "it may be", s.Check())
		c := anyConfig(r, s)
		rules := anyRun(r, s, c)
		want, costs, fault := naive(s, c, rules)
		got, cost, err := s.Do(c, rules...)
		check(t, "the configuration", whole(got), whole(want))
		check(t, "the cost", cost, costs)
		check(t, "the error", oops.Same(err, fault), true)
		if err != nil {
			faults++
		} else if len(rules) > 5 {
			long++
		}
		var steps []int
		for at := range s.Rules {
			if _, _, err := s.Do(c, at); err == nil {
				steps = append(steps, at)
			}
		}
		check(t, "Steps", numbers(s.Steps(c)), numbers(steps))
	}
	check(t, "some of each", faults > 1000 && long > 500, true)
}

// P21.4: runs one behind the other are one run, which costs what both cost.
func TestDoBehind(t *testing.T) {
	r := rand.New(rand.NewSource(214))
	both := 0
	for range 20000 {
		s := anySystem(r, 1+r.Intn(9))
		c := anyConfig(r, s)
		rules := anyRun(r, s, c)
		cut := r.Intn(len(rules) + 1)
		all, sum, err := s.Do(c, rules...)
		first, cost1, err1 := s.Do(c, rules[:cut]...)
		if err1 != nil {
			check(t, "what can't be done at first can't be done", oops.Same(err, err1), true)
			continue
		}
		second, cost2, err2 := s.Do(first, rules[cut:]...)
		check(t, "where they lead", whole(second), whole(all))
		check(t, "what they cost", amount.Add(cost1, cost2), sum)
		check(t, "whether they can be done", err2 == nil, err == nil)
		if err != nil {
			check(t, "where the other one can't", oops.At(err), oops.At(err2)+cut)
		} else if cut > 0 && cut < len(rules) {
			both++
		}
	}
	check(t, "some of two", both > 2000, true)
}

// P21.2: long runs, and high stacks.
func TestDoLong(t *testing.T) {
	s := pds.System{States: 1, Labels: 2, Rules: []pds.Rule{rule(0, 0, 0, "0 0", 1), rule(0, 0, 0, "", 2)}}
	n := 200000
	up, down := make([]int, n), slices.Repeat([]int{1}, n)
	c, cost, err := s.Do(config(0, "0 1"), slices.Concat(up, down)...)
	check(t, "there and back", whole(c), "0, 0 1")
	check(t, "its cost", cost, uint64(3*n))
	checkNil(t, "its error", err)
	c, _, _ = s.Do(config(0, "0 1"), up...)
	check(t, "its height", len(c.Stack), n+2)
}

// P21.2: one state, and one stack.
func TestSame(t *testing.T) {
	for _, c := range []struct {
		a, b pds.Config
		want bool
	}{
		{config(0, ""), config(0, ""), true},
		{config(0, ""), pds.Config{Stack: []int{}}, true},
		{config(3, "1 2 3"), config(3, "1 2 3"), true},
		{config(3, "1 2 3"), config(2, "1 2 3"), false},
		{config(3, "1 2 3"), config(3, "1 2"), false},
		{config(3, "1 2 3"), config(3, "1 2 4"), false},
		{config(3, "1 2 3"), config(3, "3 2 1"), false},
		{config(3, "1 2 3"), config(3, "2 3"), false},
		{config(0, "0"), config(0, ""), false},
		{config(-1, "-1"), config(-1, "-1"), true},
	} {
		check(t, whole(c.a)+" and "+whole(c.b), pds.Same(c.a, c.b), c.want)
		check(t, whole(c.b)+" and "+whole(c.a), pds.Same(c.b, c.a), c.want)
	}
}

// P21.3: the rules of some Pushes.
func TestLong(t *testing.T) {
	for _, c := range []struct {
		push string
		want string
	}{
		{"", "0 5 1 [] 9"},
		{"6", "0 5 1 [6] 9"},
		{"6 5", "0 5 1 [6 5] 9"},
		{"7 6 5", "0 5 20 [6 5] 9; 20 6 1 [7 6] 0"},
		{"4 3 2 1", "0 5 20 [2 1] 9; 20 2 21 [3 2] 0; 21 3 1 [4 3] 0"},
		{"1 1 1 1 1", "0 5 20 [1 1] 9; 20 1 21 [1 1] 0; 21 1 22 [1 1] 0; 22 1 1 [1 1] 0"},
		{"5 4 3 2 1 0", "0 5 20 [1 0] 9; 20 1 21 [2 1] 0; 21 2 22 [3 2] 0; 22 3 23 [4 3] 0; 23 4 1 [5 4] 0"},
	} {
		check(t, c.push, rulesText(pds.Long(0, 5, 1, list(c.push), 9, 20)), c.want)
	}
}

// P21.3: together they do what one would, and only they; and may be.
func TestLongDo(t *testing.T) {
	r := rand.New(rand.NewSource(213))
	for range 3000 {
		push := make([]int, r.Intn(10))
		for i := range push {
			push[i] = r.Intn(4)
		}
		cost := uint64(r.Intn(9))
		rules := pds.Long(1, 3, 2, push, cost, 10)
		s := pds.System{States: 20, Labels: 4, Rules: rules}
		checkNil(t, "they may be", s.Check())
		check(t, "how many", len(rules), max(1, len(push)-1))
		c := pds.Config{State: 1, Stack: []int{3, 0, 1}}
		for range rules {
			steps := s.Steps(c)
			check(t, "how many can be done", len(steps), 1)
			c, _, _ = s.Do(c, steps...)
		}
		check(t, "where one comes to", whole(c), whole(pds.Config{State: 2, Stack: slices.Concat(push, []int{0, 1})}))
		all := make([]int, len(rules))
		for i := range all {
			all[i] = i
		}
		c2, sum, err := s.Do(pds.Config{State: 1, Stack: []int{3, 0, 1}}, all...)
		checkNil(t, "in their order", err)
		check(t, "in their order", whole(c2), whole(c))
		check(t, "what they cost", sum, cost)
	}
}

// P21.3: costs are amounts.
func TestLongCost(t *testing.T) {
	for _, push := range []string{"", "1", "1 2", "1 2 3", "1 2 3 4"} {
		for _, c := range [][2]uint64{{0, 0}, {api.MaxCost, api.MaxCost}, {api.MaxCost + 1, api.MaxCost}, {math.MaxUint64, api.MaxCost}, {7, 7}} {
			rules := pds.Long(0, 0, 0, list(push), c[0], 0)
			check(t, push, rules[0].Cost, c[1])
			for _, r := range rules[1:] {
				check(t, push+", the others", r.Cost, uint64(0))
			}
		}
	}
}

// P21.3, and the ends of numbers: states don't go round.
func TestLongEnds(t *testing.T) {
	rules := pds.Long(math.MinInt, -1, math.MaxInt, list("1 2 3 4 5"), 0, math.MaxInt-1)
	for i, want := range []int{math.MinInt, math.MaxInt - 1, math.MaxInt, math.MaxInt} {
		check(t, "From "+strconv.Itoa(i), rules[i].From, want)
	}
	for i, want := range []int{math.MaxInt - 1, math.MaxInt, math.MaxInt, math.MaxInt} {
		check(t, "To "+strconv.Itoa(i), rules[i].To, want)
	}
	check(t, "below 0", rulesText(pds.Long(-3, -2, -1, list("-7 -8 -9"), 0, -5)), "-3 -2 -5 [-8 -9] 0; -5 -8 -1 [-7 -8] 0")
}

// Memory: what is handed in isn't changed, and answers share none.
func TestMemory(t *testing.T) {
	s := small()
	room := list("5 7 1 1 1 1")
	c := pds.Config{State: 0, Stack: room[:2]}
	for _, rules := range [][]int{{}, {0}, {0, 1}, {2}, {9}, {1}} {
		was, row := rulesText(s.Rules), numbers(rules)
		got, _, _ := s.Do(c, rules...)
		again := whole(got)
		for i := range got.Stack {
			got.Stack[i] = 99
		}
		_ = append(got.Stack, 98)
		check(t, "the stack handed in", numbers(room), "5 7 1 1 1 1")
		check(t, "the rules handed in", rulesText(s.Rules)+numbers(rules), was+row)
		next, _, _ := s.Do(c, rules...)
		check(t, "asked again", whole(next), again)
	}
	steps := s.Steps(c)
	steps[0] = 99
	check(t, "Steps again", numbers(s.Steps(c)), "0 2 4")

	for n := range 6 {
		push := list("1 2 3 4 5 6")[:n]
		rules := pds.Long(0, 0, 0, push, 0, 1)
		for i := range rules {
			for j := range rules[i].Push {
				rules[i].Push[j] = 10*i + j
			}
			_ = append(rules[i].Push, 99)
		}
		check(t, "the Push handed in", numbers(push[:6]), "1 2 3 4 5 6")
		for i := range rules {
			for j, label := range rules[i].Push {
				check(t, "a Push of its own", label, 10*i+j)
			}
		}
	}
}
