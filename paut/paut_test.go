package paut_test

import (
	"math"
	"math/rand"
	"slices"
	"strconv"
	"strings"
	"testing"

	"fairlead/amount"
	"fairlead/api"
	"fairlead/bits"
	"fairlead/nfa"
	"fairlead/oops"
	"fairlead/paut"
	"fairlead/pds"
)

func check[T comparable](t *testing.T, what string, got, want T) {
	t.Helper()
	if got != want {
		t.Errorf("%s: got %v, want %v", what, got, want)
	}
}

// checkNil: is it no error?
func checkNil(t *testing.T, what string, err error) {
	t.Helper()
	if err != nil {
		t.Errorf("%s: %v, want nil", what, err)
	}
}

// checkFault: is it just a fault there, within no words?
func checkFault(t *testing.T, what string, err error, code api.Errno, at int) {
	t.Helper()
	want := oops.New(code, at)
	if err == nil || !oops.Same(err, want) || err.Error() != want.Error() {
		t.Errorf("%s: %v, want %v", what, err, want)
	}
}

// numbers: a list's text, with blanks between.
func numbers(l []int) string {
	var words []string
	for _, i := range l {
		words = append(words, strconv.Itoa(i))
	}
	return strings.Join(words, " ")
}

// list: the numbers of a text.
func list(s string) []int {
	var l []int
	for _, word := range strings.Fields(s) {
		i, err := strconv.Atoi(word)
		if err != nil {
			panic(err)
		}
		l = append(l, i)
	}
	return l
}

// config: a state, and the stack of a text.
func config(state int, stack string) pds.Config { return pds.Config{State: state, Stack: list(stack)} }

// configText: all that a configuration is.
func configText(c pds.Config) string { return strconv.Itoa(c.State) + ", " + numbers(c.Stack) }

// edge: one, of a cost.
func edge(from, on, to int, cost uint64) paut.Edge {
	return paut.Edge{From: from, On: on, To: to, Cost: cost}
}

// made: an automaton whose Final are told by a text.
func made(base, states int, final string, edges ...paut.Edge) paut.Auto {
	return paut.Auto{Base: base, States: states, Edges: edges, Final: list(final)}
}

// whole: all that an automaton is.
func whole(a paut.Auto) string {
	words := []string{numbers([]int{a.Base, a.States})}
	for _, e := range a.Edges {
		words = append(words, numbers([]int{e.From, e.On, e.To})+" "+strconv.FormatUint(e.Cost, 10))
	}
	return strings.Join(words, "; ") + "; " + numbers(a.Final)
}

// The form of the types.
func TestForm(t *testing.T) {
	a := paut.Auto{1, 3, []paut.Edge{{0, 5, 2, 7}}, []int{2}}
	check(t, "an automaton", whole(a), "1 3; 0 5 2 7; 2")
	check(t, "nothing", paut.Eps, -1)
}

// P22.1: automata that may be.
func TestCheckNil(t *testing.T) {
	last := 1<<21 - 1
	for what, a := range map[string]paut.Auto{
		"the zero one":              {},
		"at its limits":             made(1<<21, 1<<21, ""),
		"without states of systems": made(0, 1<<21, numbers([]int{0, 1, last})),
		"with edges": made(1, 1<<21, numbers([]int{0, last}),
			edge(0, -1, last, 0), edge(0, -1, 0, api.MaxCost), edge(0, 127, 0, 1), edge(last, 0, 0, 1), edge(last, 0, 0, 1), edge(1, 127, last, 0)),
	} {
		checkNil(t, what, a.Check())
	}
}

// P22.1: Base and States, whatever else there is.
func TestCheckCounts(t *testing.T) {
	for _, c := range [][2]int{{-1, 0}, {-1, 5}, {1, 0}, {0, -1}, {-1, -1}, {6, 5}, {0, 1<<21 + 1}, {1<<21 + 1, 1<<21 + 1},
		{math.MinInt, 5}, {math.MaxInt, 5}, {0, math.MaxInt}, {0, math.MinInt}, {math.MaxInt, math.MaxInt}} {
		a := made(c[0], c[1], "")
		checkFault(t, numbers(c[:]), a.Check(), api.ErrRange, -1)
		a = made(c[0], c[1], "-1 -1", edge(-1, -2, -1, math.MaxUint64))
		checkFault(t, numbers(c[:])+" and all else", a.Check(), api.ErrRange, -1)
	}
}

// P22.1: the first edge that may not be, and its first fault.
func TestCheckEdges(t *testing.T) {
	good := edge(1, -1, 3, 5)
	for _, c := range []struct {
		what string
		bad  paut.Edge
		code api.Errno
	}{
		{"From below", edge(-1, 0, 0, 0), api.ErrRange},
		{"From above", edge(4, 0, 0, 0), api.ErrRange},
		{"To below", edge(0, 0, -1, 0), api.ErrRange},
		{"To above", edge(0, 0, 4, 0), api.ErrRange},
		{"On below", edge(0, -2, 0, 0), api.ErrRange},
		{"On above", edge(0, 128, 0, 0), api.ErrRange},
		{"nothing, from the Base", edge(2, -1, 3, 0), api.ErrRange},
		{"nothing, from above it", edge(3, -1, 0, 0), api.ErrRange},
		{"ends of numbers", edge(math.MinInt, math.MaxInt, 0, 0), api.ErrRange},
		{"On far below", edge(0, math.MinInt, 0, 0), api.ErrRange},
		{"the cost", edge(0, 0, 0, api.MaxCost+1), api.ErrCost},
		{"the greatest cost", edge(0, -1, 3, math.MaxUint64), api.ErrCost},
		{"a range and the cost", edge(0, 0, 4, api.MaxCost+1), api.ErrRange},
		{"nothing and the cost", edge(2, -1, 3, api.MaxCost+1), api.ErrRange},
	} {
		a := made(2, 4, "", c.bad)
		checkFault(t, c.what, a.Check(), c.code, 0)
		a = made(2, 4, "3 1", good, good, good, c.bad, edge(9, 9, 9, 0))
		checkFault(t, c.what+", behind others", a.Check(), c.code, 3)
	}
	a := made(2, 4, "", good, edge(0, 0, 0, math.MaxUint64), edge(9, 0, 0, 0))
	checkFault(t, "the first edge comes first", a.Check(), api.ErrCost, 1)
}

// P22.1: Final are states that rise.
func TestCheckFinal(t *testing.T) {
	for _, final := range []string{"", "0", "3", "0 1 2 3", "1 3"} {
		checkNil(t, final, made(2, 4, final, edge(0, 0, 0, 0)).Check())
	}
	for _, final := range []string{"-1", "4", "0 0", "1 0", "0 1 1", "3 2", "0 4", "-1 0", "0 1 2 3 4", strconv.Itoa(math.MinInt), strconv.Itoa(math.MaxInt)} {
		checkFault(t, final, made(2, 4, final, edge(0, 0, 0, 0)).Check(), api.ErrOrder, -1)
	}
	checkFault(t, "of none", made(0, 0, "0").Check(), api.ErrOrder, -1)
}

// P22.1: no edge on nothing, and none to a state of a system.
func TestPlain(t *testing.T) {
	inner, on := edge(2, 0, 3, 0), edge(0, 127, 2, 0)
	for _, c := range []struct {
		a    paut.Auto
		want bool
	}{
		{made(0, 0, ""), true},
		{made(2, 4, "0 1"), true},
		{made(2, 4, "", inner, on), true},
		{made(2, 4, "", inner, edge(0, -1, 2, 0), on), false},
		{made(2, 4, "", inner, edge(0, 0, 1, 0), on), false},
		{made(2, 4, "", edge(3, 0, 0, 0)), false},
		{made(2, 4, "", on, edge(1, -1, 3, 0)), false},
		{made(0, 4, "", edge(3, 0, 0, 0)), true},
		{made(4, 4, "", edge(3, 0, 3, 0)), false},
	} {
		check(t, whole(c.a), c.a.Plain(), c.want)
	}
}

// least: what a configuration costs, as a text.
func least(a paut.Auto, c pds.Config) string {
	cost, ok := a.Least(c)
	if !ok && cost != 0 {
		return "beside a false " + strconv.FormatUint(cost, 10)
	}
	if !ok {
		return "none"
	}
	return strconv.FormatUint(cost, 10)
}

// path: the edges of a path, as a text.
func path(a paut.Auto, c pds.Config) string {
	edges, ok := a.Path(c)
	if !ok && len(edges) > 0 {
		return "beside a false " + numbers(edges)
	}
	if !ok {
		return "none"
	}
	return "by " + numbers(edges)
}

// some: an automaton with edges of all sorts.
func some() paut.Auto {
	return made(3, 6, "1 5",
		edge(0, 7, 4, 5),
		edge(0, -1, 3, 1),
		edge(3, 7, 4, 2),
		edge(4, 8, 5, 10),
		edge(4, 8, 5, 9),
		edge(5, 8, 5, 0),
		edge(0, -1, 5, 100),
		edge(2, 7, 0, 3),
		edge(2, -1, 0, 4),
		edge(4, 0, 1, 0),
	)
}

// P22.2: what configurations cost, and by which edges.
func TestLeast(t *testing.T) {
	a := some()
	checkNil(t, "it may be", a.Check())
	for _, c := range []struct {
		c         pds.Config
		cost, way string
	}{
		{config(0, "7 8"), "12", "by 1 2 4"},
		{config(0, "7 8 8 8"), "12", "by 1 2 4 5 5"},
		{config(0, ""), "100", "by 6"},
		{config(0, "8"), "100", "by 6 5"},
		{config(0, "7"), "none", "none"},
		{config(0, "7 0"), "3", "by 1 2 9"},
		{config(1, ""), "0", "by "},
		{config(1, "7"), "none", "none"},
		{config(2, ""), "none", "none"},
		{config(2, "7 7 8"), "17", "by 7 0 4"}, // nothing comes but first of all
		{config(2, "7 8"), "18", "by 8 0 4"},
		{config(2, "7"), "none", "none"},
		{config(0, "-1"), "none", "none"},
		{config(0, "-1 7 8"), "none", "none"},
		{config(0, "7 -1"), "none", "none"},
		{config(3, "7 8"), "none", "none"},
		{config(5, ""), "none", "none"},
		{config(6, ""), "none", "none"},
		{config(-1, ""), "none", "none"},
		{config(math.MaxInt, "7 8"), "none", "none"},
		{config(math.MinInt, "7 8"), "none", "none"},
		{config(0, "7 8 128"), "none", "none"},
	} {
		check(t, configText(c.c), least(a, c.c), c.cost)
		check(t, configText(c.c), path(a, c.c), c.way)
	}
	check(t, "the zero one", least(paut.Auto{}, config(0, "")), "none")
	check(t, "the zero one's path", path(paut.Auto{}, config(0, "")), "none")
}

// P22.2: at most one edge on nothing, even where there are several.
func TestLeastNothing(t *testing.T) {
	a := made(3, 4, "3", edge(0, -1, 1, 0), edge(1, -1, 2, 0), edge(2, -1, 3, 0), edge(2, 5, 3, 1), edge(1, -1, 1, 0))
	check(t, "one", least(a, config(2, "")), "0")
	check(t, "two", least(a, config(1, "")), "none")
	check(t, "one and a label", path(a, config(1, "5")), "by 1 3")
	check(t, "two and a label", path(a, config(0, "5")), "none")
	check(t, "none and a label", path(a, config(2, "5")), "by 3")
}

// P22.2: costs up to the greatest amount.
func TestLeastEnds(t *testing.T) {
	a := made(1, 3, "2", edge(0, 0, 1, api.MaxCost), edge(1, 0, 2, api.MaxCost), edge(2, 1, 2, 1))
	check(t, "more", least(a, config(0, "0 0")), "9223372036854775807")
	check(t, "still more", least(a, config(0, "0 0 1 1")), "9223372036854775807")
	check(t, "its path", path(a, config(0, "0 0 1 1")), "by 0 1 2 2")
	a = made(1, 2, "1", edge(0, 127, 1, api.MaxCost), edge(0, -1, 1, api.MaxCost))
	check(t, "one", least(a, config(0, "127")), "9223372036854775807")
	check(t, "on nothing", least(a, config(0, "")), "9223372036854775807")
}

// P22.2: high stacks.
func TestLeastLong(t *testing.T) {
	a := made(1, 3, "1", edge(0, 0, 1, 1), edge(1, 0, 2, 1), edge(2, 0, 1, 1), edge(1, 0, 1, 3))
	stack := make([]int, 100001)
	check(t, "odd", least(a, pds.Config{Stack: stack}), "100001")
	check(t, "even", least(a, pds.Config{Stack: stack[1:]}), "100002")
	edges, ok := a.Path(pds.Config{Stack: stack[1:]})
	check(t, "its path", ok && len(edges) == 100000, true)
}

// paths: those of a configuration from a state on, ahead of its stack, with edges
// on nothing only at first.
func paths(a paut.Auto, state int, stack []int, first bool) [][]int {
	var all [][]int
	if len(stack) == 0 && slices.Contains(a.Final, state) {
		all = append(all, nil)
	}
	for at, e := range a.Edges {
		rest := stack
		switch {
		case e.From != state:
			continue
		case e.On == paut.Eps && !first, e.On != paut.Eps && (len(stack) == 0 || stack[0] != e.On):
			continue
		case e.On != paut.Eps:
			rest = stack[1:]
		}
		for _, way := range paths(a, e.To, rest, false) {
			all = append(all, slices.Concat([]int{at}, way))
		}
	}
	return all
}

// sum: what edges cost together.
func sum(a paut.Auto, edges []int) uint64 {
	var costs []uint64
	for _, at := range edges {
		costs = append(costs, a.Edges[at].Cost)
	}
	return amount.Sum(costs...)
}

// anyAuto: one that may be, of that Base, of at most so many states beside it, over
// the labels 0 and 1.
func anyAuto(r *rand.Rand, base, most int, plain bool) paut.Auto {
	a := paut.Auto{Base: base, States: base + r.Intn(most+1)}
	for range r.Intn(16) {
		if a.States == 0 || plain && a.States == base {
			break
		}
		e := edge(r.Intn(a.States), r.Intn(2), r.Intn(a.States), uint64(r.Intn(6)))
		if plain {
			e.To = base + r.Intn(a.States-base)
		} else if e.From < base && r.Intn(3) == 0 {
			e.On = paut.Eps
		}
		if r.Intn(15) == 0 {
			e.Cost = api.MaxCost - uint64(r.Intn(3))
		}
		a.Edges = append(a.Edges, e)
	}
	for s := range a.States {
		if r.Intn(4) == 0 {
			a.Final = append(a.Final, s)
		}
	}
	return a
}

// P22.2: any configurations of any automata.
func TestLeastAny(t *testing.T) {
	r := rand.New(rand.NewSource(222))
	has, several := 0, 0
	for range 20000 {
		a := anyAuto(r, r.Intn(4), 2, r.Intn(3) == 0)
		checkNil(t, "it may be", a.Check())
		c := pds.Config{State: r.Intn(a.Base+2) - 1}
		for range r.Intn(5) {
			c.Stack = append(c.Stack, r.Intn(2))
		}
		was := whole(a) + configText(c)
		var all [][]int
		if c.State >= 0 && c.State < a.Base {
			all = paths(a, c.State, c.Stack, true)
		}
		want := "none"
		if len(all) > 0 {
			has++
			want = strconv.FormatUint(slices.Min(each(all, func(way []int) uint64 { return sum(a, way) })), 10)
		}
		if len(all) > 1 {
			several++
		}
		check(t, was, least(a, c), want)
		way, ok := a.Path(c)
		check(t, was+": whether there is a path", ok, len(all) > 0)
		if ok {
			check(t, was+": it is one", slices.ContainsFunc(all, func(one []int) bool { return slices.Equal(one, way) }), true)
			check(t, was+": what it costs", strconv.FormatUint(sum(a, way), 10), want)
		}
		again, _ := a.Path(c)
		check(t, was+": the same each time", numbers(again), numbers(way))
		check(t, "what was handed in", whole(a)+configText(c), was)
	}
	check(t, "some of each", has > 1000 && several > 500, true)
}

// each: what is told of each of a list.
func each[S, T any](l []S, tell func(S) T) []T {
	var told []T
	for _, x := range l {
		told = append(told, tell(x))
	}
	return told
}

// row: the automaton of a b*, with a as 0 and b as 1.
func row() nfa.NFA {
	return nfa.NFA{On: []bits.Set{{}, bits.Of(0), bits.Of(1)}, Next: [][]int{{1}, {2}, {2}}, Final: []bool{false, true, true}}
}

// P22.3: the chapter's example, and states that don't count, or come twice.
func TestFrom(t *testing.T) {
	a := paut.From(3, []int{0}, []uint64{5}, row())
	check(t, "the example", least(a, config(0, "0 1")), "5")
	check(t, "another row", least(a, config(0, "1 0")), "none")
	check(t, "another state", least(a, config(1, "0 1")), "none")

	a = paut.From(4, []int{3, -1, 1, 4, 1, 3, 2, 9, 0}, []uint64{7, 8, 9, 10, 11, 12, math.MaxUint64}, row())
	checkNil(t, "it may be", a.Check())
	check(t, "its Base", a.Base, 4)
	check(t, "it is plain", a.Plain(), true)
	for state, want := range map[int]string{3: "7", 1: "9", 2: "9223372036854775807", 0: "0", -1: "none", 4: "none", 9: "none", 5: "none"} {
		check(t, numbers([]int{state}), least(a, config(state, "0")), want)
		check(t, numbers([]int{state})+" and many", least(a, config(state, "0 1 1 1")), want)
		check(t, numbers([]int{state})+" without a stack", least(a, config(state, "")), "none")
		check(t, numbers([]int{state})+" and another row", least(a, config(state, "0 0")), "none")
	}
	a = paut.From(2, []int{0, 1, 1}, []uint64{4}, row())
	check(t, "a first place without costs", least(a, config(1, "0")), "0")
	a = paut.From(1, []int{0}, []uint64{1, 2, 3}, row())
	check(t, "costs of no state", least(a, config(0, "0")), "1")
}

// P22.3: nothing at all, and edges of the numbers.
func TestFromEnds(t *testing.T) {
	empty := nfa.NFA{On: []bits.Set{{}}, Next: [][]int{nil}, Final: []bool{true}}
	for what, a := range map[string]paut.Auto{
		"no states":         paut.From(5, nil, []uint64{1}, row()),
		"none below base":   paut.From(5, []int{5, -1, math.MaxInt, math.MinInt}, nil, row()),
		"no base":           paut.From(0, []int{0, 1}, nil, row()),
		"the empty row":     paut.From(5, []int{0, 1}, nil, empty),
		"no automaton":      paut.From(5, []int{0, 1}, nil, nfa.NFA{}),
		"the greatest base": paut.From(1<<21, []int{1 << 21}, nil, row()),
	} {
		checkNil(t, what, a.Check())
		check(t, what+": it is plain", a.Plain(), true)
		for _, stack := range []string{"", "0", "0 1"} {
			check(t, what, least(a, config(0, stack)), "none")
		}
	}
	a := paut.From(1<<20, []int{1<<20 - 1}, nil, row())
	checkNil(t, "many states", a.Check())
	check(t, "many states", least(a, config(1<<20-1, "0 1 1")), "0")
	for _, base := range []int{math.MaxInt, math.MaxInt - 1, 1<<21 + 1} {
		a = paut.From(base, []int{0, base - 1}, nil, row())
		check(t, "more than may be", a.Base == base && a.States >= base, true)
		checkFault(t, "more than may be", a.Check(), api.ErrRange, -1)
	}
	wide := nfa.NFA{On: []bits.Set{bits.Of(3), bits.Of(0, 63, 64, 127), {}}, Next: [][]int{{1, 2}, {1}, {1}}, Final: []bool{true, true, true}}
	a = paut.From(1, []int{0}, nil, wide)
	for _, label := range []string{"0", "63", "64", "127", "127 0 64 63"} {
		check(t, label, least(a, config(0, label)), "0")
	}
	for _, label := range []string{"", "1", "3", "126", "128", "-1", "0 3"} {
		check(t, label, least(a, config(0, label)), "none")
	}
}

// anyNFA: one that may be, over the numbers 0 to 2.
func anyNFA(r *rand.Rand) nfa.NFA {
	n := 1 + r.Intn(4)
	a := nfa.NFA{On: make([]bits.Set, n), Next: make([][]int, n), Final: make([]bool, n)}
	for s := range n {
		for i := range 3 {
			if r.Intn(2) == 0 {
				a.On[s] = a.On[s].With(i)
			}
		}
		for to := 1; to < n; to++ {
			if r.Intn(2) == 0 {
				a.Next[s] = append(a.Next[s], to)
			}
		}
		a.Final[s] = r.Intn(3) == 0
	}
	return a
}

// upTo: all stacks over so many labels, up to a height.
func upTo(count, most int) [][]int {
	rows := [][]int{nil}
	for i := 0; i < len(rows); i++ {
		for n := range count {
			if len(rows[i]) < most {
				rows = append(rows, append(slices.Clone(rows[i]), n))
			}
		}
	}
	return rows
}

// P22.3: any states of any automata.
func TestFromAny(t *testing.T) {
	r := rand.New(rand.NewSource(223))
	rows := upTo(3, 3)
	for range 1500 {
		n, base := anyNFA(r), r.Intn(4)
		at, costs := make([]int, r.Intn(5)), make([]uint64, r.Intn(5))
		for i := range at {
			at[i] = r.Intn(6) - 1
		}
		for i := range costs {
			costs[i] = uint64(r.Intn(9))
		}
		was, wasCosts := numbers(at), slices.Clone(costs)
		a := paut.From(base, at, costs, n)
		checkNil(t, "it may be", a.Check())
		check(t, "it is plain, of that Base", a.Plain() && a.Base == base, true)
		check(t, "what was handed in", numbers(at) == was && slices.Equal(costs, wasCosts), true)
		for state := -1; state < a.States+1; state++ {
			for _, stack := range rows {
				want, i := "none", slices.Index(at, state)
				if i >= 0 && state >= 0 && state < base && len(stack) > 0 && n.Accepts(stack) {
					want = "0"
					if i < len(costs) {
						want = strconv.FormatUint(costs[i], 10)
					}
				}
				c := pds.Config{State: state, Stack: stack}
				check(t, was+" "+whole(a)+": "+configText(c), least(a, c), want)
			}
		}
	}
}

// best: what both have at the least cost, as a text.
func best(a, b paut.Auto) string {
	c, cost, ok := paut.Best(a, b)
	switch {
	case ok:
		return configText(c) + " for " + strconv.FormatUint(cost, 10)
	case cost != 0 || c.State != 0 || len(c.Stack) > 0:
		return "beside a false " + configText(c)
	}
	return "none"
}

// P22.4: what two have in common.
func TestBest(t *testing.T) {
	a := made(2, 4, "3", edge(0, 5, 2, 3), edge(2, 6, 3, 1), edge(2, 7, 3, 9), edge(1, 5, 3, 20))
	b := made(2, 4, "3", edge(0, 5, 3, 1), edge(3, 7, 3, 2), edge(3, 6, 2, 0), edge(1, 5, 3, 20))
	check(t, "one costs less than another", best(a, b), "0, 5 7 for 15")
	check(t, "the other way round", best(b, a), "0, 5 7 for 15")
	check(t, "with itself", best(a, a), "0, 5 6 for 8")
	check(t, "with none", best(a, made(2, 4, "")), "none")
	check(t, "with other states", best(a, made(2, 3, "2", edge(0, 6, 2, 0), edge(1, 6, 2, 0))), "none")
	check(t, "of no states", best(paut.Auto{}, paut.Auto{}), "none")
	check(t, "of none below Base", best(made(0, 1, "0"), made(0, 1, "0")), "none")
	check(t, "without a stack", best(made(9, 9, "3 8"), made(9, 9, "5 8")), "8,  for 0")
	check(t, "a stack costs less than none", best(
		made(2, 3, "1 2", edge(0, 4, 2, 1)),
		made(2, 3, "2", edge(1, -1, 2, 3), edge(0, 4, 2, 1))), "0, 4 for 2")
	check(t, "up to the greatest amount", best(
		made(1, 2, "1", edge(0, 127, 1, api.MaxCost)),
		made(1, 2, "1", edge(0, 127, 1, api.MaxCost))), "0, 127 for 9223372036854775807")
	check(t, "an edge on nothing of one alone", best(
		made(1, 2, "1", edge(0, -1, 1, 0)),
		made(1, 2, "1", edge(0, 0, 1, 0))), "none")
	check(t, "edges on nothing of both", best(
		made(1, 2, "1", edge(0, -1, 1, 3)),
		made(1, 2, "1", edge(0, -1, 1, 4))), "0,  for 7")
	check(t, "two edges on nothing", best(
		made(2, 3, "2", edge(0, -1, 1, 0), edge(1, -1, 2, 0)),
		made(2, 3, "0 2", edge(0, -1, 2, 0))), "none")
	check(t, "edges to the states of a system", best(
		made(2, 2, "0", edge(1, 3, 0, 1), edge(0, 3, 1, 1)),
		made(2, 2, "1", edge(1, 3, 1, 1))), "1, 3 for 2")
}

// P22.4: it takes as many labels as both need.
func TestBestLong(t *testing.T) {
	ring := func(n int) paut.Auto {
		a := made(1, n+1, strconv.Itoa(n), edge(0, 2, 1, 1))
		for s := 1; s <= n; s++ {
			a.Edges = append(a.Edges, edge(s, 2, s%n+1, 1))
		}
		return a
	}
	c, cost, ok := paut.Best(ring(7), ring(11))
	check(t, "of 7 and 11", ok && len(c.Stack) == 77 && cost == 154, true)
	c, cost, ok = paut.Best(ring(61), ring(64))
	check(t, "of 61 and 64", ok && len(c.Stack) == 61*64 && cost == 2*61*64, true)

	wide := paut.From(1<<20, []int{1<<20 - 1, 7}, []uint64{5, 6}, row())
	all := made(1<<20, 1<<20+1, strconv.Itoa(1<<20))
	for s := range 1 << 17 {
		all.Edges = append(all.Edges, edge(s, 0, 1<<20, uint64(s)))
	}
	check(t, "of many states", best(wide, all), "7, 0 for 13")
	check(t, "of many states", best(all, wide), "7, 0 for 13")
}

// toGo: the least that it costs from each pair of states on to the end of one
// stack, in rounds, till none costs less.
func toGo(a, b paut.Auto) map[[2]int]uint64 {
	least := map[[2]int]uint64{}
	for _, f := range a.Final {
		for _, g := range b.Final {
			least[[2]int{f, g}] = 0
		}
	}
	for changed := true; changed; {
		changed = false
		for _, x := range a.Edges {
			for _, y := range b.Edges {
				rest, ok := least[[2]int{x.To, y.To}]
				if !ok || x.On != y.On || x.On == paut.Eps {
					continue
				}
				from, cost := [2]int{x.From, y.From}, amount.Sum(x.Cost, y.Cost, rest)
				if old, ok := least[from]; !ok || cost < old {
					least[from], changed = cost, true
				}
			}
		}
	}
	return least
}

// first: edges on nothing from a state, and one that stays there.
func first(a paut.Auto, state int) []paut.Edge {
	l := []paut.Edge{edge(state, paut.Eps, state, 0)}
	for _, e := range a.Edges {
		if e.From == state && e.On == paut.Eps {
			l = append(l, e)
		}
	}
	return l
}

// P22.4: of any two, plain or not.
func TestBestAny(t *testing.T) {
	r := rand.New(rand.NewSource(224))
	has, high := 0, 0
	for range 20000 {
		base := r.Intn(3)
		a, b := anyAuto(r, base, 4, r.Intn(3) == 0), anyAuto(r, base, 4, r.Intn(3) == 0)
		was := whole(a) + " and " + whole(b)
		rest := toGo(a, b)
		var costs []uint64
		for state := range base {
			for _, x := range first(a, state) {
				for _, y := range first(b, state) {
					if more, ok := rest[[2]int{x.To, y.To}]; ok {
						costs = append(costs, amount.Sum(x.Cost, y.Cost, more))
					}
				}
			}
		}
		c, cost, ok := paut.Best(a, b)
		check(t, was+": whether there is one", ok, len(costs) > 0)
		if len(costs) == 0 {
			check(t, was, best(a, b), "none")
			continue
		}
		has++
		if len(c.Stack) > 2 {
			high++
		}
		check(t, was+": what it costs", cost, slices.Min(costs))
		x, okA := a.Least(c)
		y, okB := b.Least(c)
		check(t, was+": both have it", okA && okB, true)
		check(t, was+": what both tell", amount.Add(x, y), cost)
		check(t, was+": the same each time", best(a, b), configText(c)+" for "+strconv.FormatUint(cost, 10))
		check(t, "what was handed in", whole(a)+" and "+whole(b), was)
	}
	check(t, "some of each", has > 2000 && high > 50, true)
}

// P22.4: no other configuration costs less, of all of some heights.
func TestBestNone(t *testing.T) {
	r := rand.New(rand.NewSource(225))
	stacks := upTo(2, 6)
	for range 300 {
		a, b := anyAuto(r, 2, 2, false), anyAuto(r, 2, 2, false)
		_, cost, ok := paut.Best(a, b)
		for i := range 2 * len(stacks) {
			c := pds.Config{State: i % 2, Stack: stacks[i/2]}
			x, okA := a.Least(c)
			y, okB := b.Least(c)
			if okA && okB && (!ok || amount.Add(x, y) < cost) {
				t.Errorf("%s and %s: %s costs less", whole(a), whole(b), configText(c))
			}
		}
	}
}

// Memory: answers are new each time, and nothing that is handed in is changed.
func TestMemory(t *testing.T) {
	a := some()
	was := whole(a)
	edges, _ := a.Path(config(0, "7 8"))
	edges[0] = 99
	check(t, "a path", path(a, config(0, "7 8")), "by 1 2 4")
	c, _, _ := paut.Best(a, a)
	other, _, _ := paut.Best(made(1, 2, "1", edge(0, 0, 1, 0), edge(1, 0, 1, 0)), made(1, 2, "1", edge(0, 0, 1, 0)))
	other.Stack[0] = 9
	check(t, "a configuration", configText(c), "1, ")
	check(t, "what was handed in", whole(a), was)

	n, at, costs := row(), []int{0, 1}, []uint64{1, 2}
	one, two := paut.From(2, at, costs, n), paut.From(2, at, costs, n)
	text := whole(two)
	for i := range one.Edges {
		one.Edges[i].To = 77
	}
	for i := range one.Final {
		one.Final[i] = 77
	}
	at[0], costs[0], n.Next[0][0], n.Final[1] = 1, 50, 2, false
	check(t, "two of one", whole(two), text)
	at, costs = list("0 1 7 8 9"), []uint64{1, 2, 3, 4}
	paut.From(2, at[:2], costs[:1], row())
	check(t, "spare room", numbers(at) == "0 1 7 8 9" && slices.Equal(costs, []uint64{1, 2, 3, 4}), true)
}
