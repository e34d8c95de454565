package reduce_test

import (
	"math"
	"math/rand"
	"slices"
	"strconv"
	"strings"
	"testing"

	"fairlead/api"
	"fairlead/oops"
	"fairlead/paut"
	"fairlead/pds"
	"fairlead/reduce"
	"fairlead/run"
	"fairlead/sample"
)

func check[T comparable](t *testing.T, what string, got, want T) {
	t.Helper()
	if got != want {
		t.Errorf("%s: got %v, want %v", what, got, want)
	}
}

// What package sample makes, and tells.
var (
	rule       = sample.Rule
	system     = sample.System
	systemText = sample.SystemText
	edge       = sample.Edge
	made       = sample.Auto
	autoText   = sample.AutoText
)

// topsText: each state's labels, with commas between.
func topsText(tops [][]int) string {
	var words []string
	for _, l := range tops {
		words = append(words, sample.Numbers(l))
	}
	return strings.Join(words, ", ")
}

// leadsText: the states that lead.
func leadsText(leads []bool) string {
	var l []int
	for state, is := range leads {
		if is {
			l = append(l, state)
		}
	}
	return sample.Numbers(l) + " of " + strconv.Itoa(len(leads))
}

// ofText: the places of the rules that are left, where these are those that were
// there.
func ofText(t *testing.T, s pds.System, a, b paut.Auto, level int) string {
	t.Helper()
	fewer, places := reduce.Of(s, a, b, level)
	want := system(s.States, s.Labels)
	for _, at := range places {
		want.Rules = append(want.Rules, s.Rules[at])
	}
	check(t, "the rules at these places", systemText(fewer), systemText(want))
	return sample.Numbers(places)
}

// example: a has 0, 5; from 3, to which nothing leads, a rule leads to what b has.
func example() (pds.System, paut.Auto, paut.Auto) {
	s := system(4, 8,
		rule(0, 5, 1, "6", 1),
		rule(3, 5, 2, "6", 1),
		rule(1, 6, 2, "", 1),
		rule(1, 7, 2, "", 1),
		rule(1, 6, 3, "7 7", 1))
	return s, made(4, 5, "4", edge(0, 5, 4, 0)), made(4, 5, "2")
}

// P29.1 to P29.3: the chapter's example.
func TestExample(t *testing.T) {
	s, a, b := example()
	check(t, "on top", topsText(reduce.Tops(s, a)), "5, 6, 7, 7")
	check(t, "what leads", leadsText(reduce.Leads(s, b)), "0 1 2 3 of 4")
	check(t, "level 0", ofText(t, s, a, b, 0), "0 1 2 3 4")
	check(t, "level 1", ofText(t, s, a, b, 1), "0 2 4")
	check(t, "level 2", ofText(t, s, a, b, 2), "0 2 4")
}

// P29.1: what a's edges have, and what rules lay on, one behind the other.
func TestTops(t *testing.T) {
	for _, c := range []struct {
		what  string
		rules []pds.Rule
		want  string
	}{
		{"no rules", nil, "0 2, , "},
		{"one label", []pds.Rule{rule(0, 2, 1, "3", 0)}, "0 2, 3, "},
		{"the same one", []pds.Rule{rule(0, 2, 1, "2", 0)}, "0 2, 2, "},
		{"rising", []pds.Rule{rule(0, 2, 1, "4", 0), rule(0, 0, 1, "1", 0), rule(0, 0, 1, "3", 0)}, "0 2, 1 3 4, "},
		{"two labels", []pds.Rule{rule(0, 2, 1, "3 4", 0)}, "0 2, 3, "},
		{"another top", []pds.Rule{rule(0, 1, 1, "3", 0), rule(0, 3, 1, "2", 0)}, "0 2, , "},
		{"one behind the other", []pds.Rule{rule(1, 3, 2, "4", 0), rule(0, 2, 1, "3", 0)}, "0 2, 3, 4"},
		{"with the wrong top", []pds.Rule{rule(1, 4, 2, "4", 0), rule(0, 2, 1, "3 4", 0)}, "0 2, 3, "},
		{"in a round", []pds.Rule{rule(1, 3, 0, "1", 0), rule(0, 2, 1, "3", 0), rule(0, 1, 2, "0", 0)}, "0 1 2, 3, 0"},
		{"to itself", []pds.Rule{rule(0, 2, 0, "3", 0), rule(0, 3, 0, "4 1", 0)}, "0 2 3 4, , "},
		{"without a Push", []pds.Rule{rule(0, 2, 1, "", 0)}, "0 2, 1 5, "},
		{"without a Push, of another top", []pds.Rule{rule(0, 1, 1, "", 0)}, "0 2, , "},
		{"what was second", []pds.Rule{rule(0, 2, 1, "", 0), rule(1, 5, 2, "3 4", 0)}, "0 2, 1 4 5, 3"},
		{"what was second, found first", []pds.Rule{rule(0, 0, 2, "3 4", 0), rule(0, 2, 1, "", 0)}, "0 2, 1 4 5, 3"},
		{"what was second of what can't be done", []pds.Rule{rule(0, 2, 1, "", 0), rule(1, 0, 2, "3 4", 0)}, "0 2, 1 5, "},
		{"what was second goes on", []pds.Rule{rule(0, 0, 1, "", 0), rule(0, 2, 0, "2 3", 0), rule(1, 3, 2, "", 0), rule(2, 5, 2, "3 0", 0)}, "0 2, 0 1 3 5, 0 1 3 5"},
		{"from a state at which nothing may be", []pds.Rule{rule(1, 0, 2, "", 0), rule(1, 1, 2, "1 2", 0)}, "0 2, , "},
	} {
		s := system(3, 6, c.rules...)
		a := made(3, 6, "5", edge(0, 2, 3, 7), edge(0, 0, 4, 1), edge(0, 2, 5, 1), edge(4, 5, 3, 1), edge(5, 1, 5, 0))
		check(t, c.what, topsText(reduce.Tops(s, a)), c.want)
		slices.Reverse(s.Rules)
		check(t, c.what+", the other way round", topsText(reduce.Tops(s, a)), c.want)
	}
}

// P29.1: edges, wherever they lead, and on whatever labels.
func TestTopsEdges(t *testing.T) {
	s := system(2, 3, rule(0, 1, 1, "", 0))
	check(t, "labels that the system hasn't", topsText(reduce.Tops(s, made(2, 4, "", edge(0, 1, 2, 0), edge(0, 127, 3, 0), edge(3, 126, 3, 0), edge(1, 64, 2, 0)))), "1 127, 64 126")
	check(t, "no edges", topsText(reduce.Tops(s, made(2, 4, "0 1 2 3"))), ", ")
	check(t, "above the Base alone", topsText(reduce.Tops(s, made(2, 4, "0", edge(2, 1, 3, 0), edge(3, 0, 2, 0)))), ", ")
	check(t, "no states", len(reduce.Tops(pds.System{}, made(0, 2, "0 1", edge(0, 1, 1, 0)))), 0)
	check(t, "no labels", topsText(reduce.Tops(system(2, 0), made(2, 3, "", edge(1, 0, 2, 0)))), ", 0")
}

// P29.2: states from which one comes to what b has.
func TestLeads(t *testing.T) {
	s := system(6, 2, rule(0, 0, 1, "", 0), rule(1, 1, 2, "0 1", 0), rule(3, 0, 2, "1", 0), rule(4, 0, 5, "", 0), rule(5, 0, 4, "", 0), rule(2, 1, 2, "", 0))
	for _, c := range []struct {
		what string
		b    paut.Auto
		want string
	}{
		{"an edge", made(6, 7, "", edge(2, 0, 6, 0)), "0 1 2 3 of 6"},
		{"a Final one", made(6, 6, "2"), "0 1 2 3 of 6"},
		{"both", made(6, 7, "2", edge(2, 0, 6, 0), edge(2, 1, 6, 0)), "0 1 2 3 of 6"},
		{"one on the way", made(6, 7, "6", edge(1, 0, 6, 0)), "0 1 of 6"},
		{"the first one", made(6, 6, "0"), "0 of 6"},
		{"in a round", made(6, 6, "5"), "4 5 of 6"},
		{"two", made(6, 7, "3", edge(4, 127, 6, 0)), "3 4 5 of 6"},
		{"above the Base alone", made(6, 8, "6 7", edge(6, 0, 7, 0)), " of 6"},
		{"none", made(6, 6, ""), " of 6"},
	} {
		check(t, c.what, leadsText(reduce.Leads(s, c.b)), c.want)
	}
	check(t, "no rules", leadsText(reduce.Leads(system(2, 1), made(2, 2, "1"))), "1 of 2")
	check(t, "no states", leadsText(reduce.Leads(pds.System{}, made(0, 2, "0 1", edge(0, 1, 1, 0)))), " of 0")
}

// P29.3: which rules stay at each level, in their order.
func TestLevels(t *testing.T) {
	s := system(6, 4,
		rule(0, 0, 1, "1", 5),
		rule(0, 1, 1, "1", 6),
		rule(1, 1, 2, "2 3", 7),
		rule(1, 1, 3, "", 8),
		rule(3, 3, 3, "0", 0),
		rule(4, 0, 2, "", 1),
		rule(2, 2, 1, "1", api.MaxCost),
		rule(0, 0, 1, "1", 5),
		rule(2, 3, 2, "", 0),
		rule(2, 2, 5, "1", 0),
	)
	a, b := made(6, 7, "6", edge(0, 0, 6, 0)), made(6, 8, "7", edge(2, 1, 6, 0), edge(6, 0, 7, 0), edge(5, 0, 7, 0))
	for level, want := range map[int]string{
		math.MinInt: "0 1 2 3 4 5 6 7 8 9",
		-1:          "0 1 2 3 4 5 6 7 8 9",
		0:           "0 1 2 3 4 5 6 7 8 9",
		1:           "0 2 3 4 6 7 9",
		2:           "0 2 6 7 9",
		3:           "0 2 6 7 9",
		math.MaxInt: "0 2 6 7 9",
	} {
		check(t, "level "+strconv.Itoa(level), ofText(t, s, a, b, level), want)
	}
	for _, level := range []int{0, 1, 2} {
		check(t, "no rules", ofText(t, system(6, 4), a, b, level), "")
		check(t, "no states", ofText(t, pds.System{}, paut.Auto{}, paut.Auto{}, level), "")
	}
	check(t, "what a hasn't", ofText(t, s, made(6, 6, "0"), b, 1), "")
	check(t, "what b hasn't", ofText(t, s, a, made(6, 7, "6"), 2), "")
	check(t, "b counts at level 2 alone", ofText(t, s, a, made(6, 7, "6"), 1), "0 2 3 4 6 7 9")
}

// P29.3: what leads is told of the whole system, not of the rules that may be done.
func TestLeadsOfAll(t *testing.T) {
	s := system(3, 2, rule(0, 0, 1, "0", 0), rule(1, 1, 2, "0", 0))
	a, b := made(3, 4, "3", edge(0, 0, 3, 0)), made(3, 3, "2")
	check(t, "level 1", ofText(t, s, a, b, 1), "0")
	check(t, "level 2", ofText(t, s, a, b, 2), "0")
}

// soughtTops: another way to find what may be on top: all rules again and again,
// until nothing new comes.
func soughtTops(s pds.System, a paut.Auto) string {
	type spot struct{ state, top int }
	has, below := map[spot]int{}, map[int]int{}
	for _, e := range a.Edges {
		if e.From < a.Base {
			has[spot{e.From, e.On}] = 1
		} else {
			below[e.On] = 1
		}
	}
	for before := -1; before != len(has)+len(below); {
		before = len(has) + len(below)
		for _, r := range s.Rules {
			if has[spot{r.From, r.Top}] == 0 {
				continue
			}
			if len(r.Push) == 2 {
				below[r.Push[1]] = 1
			}
			if len(r.Push) > 0 {
				has[spot{r.To, r.Push[0]}] = 1
				continue
			}
			for label := range below {
				has[spot{r.To, label}] = 1
			}
		}
	}
	tops := make([][]int, s.States)
	for state := range tops {
		for top := range api.MaxSet {
			if has[spot{state, top}] == 1 {
				tops[state] = append(tops[state], top)
			}
		}
	}
	return topsText(tops)
}

// soughtLeads: another way to find what leads.
func soughtLeads(s pds.System, b paut.Auto) string {
	leads := make([]bool, s.States)
	for _, e := range b.Edges {
		if e.From < s.States {
			leads[e.From] = true
		}
	}
	for _, state := range b.Final {
		if state < s.States {
			leads[state] = true
		}
	}
	for range s.States {
		for _, r := range s.Rules {
			leads[r.From] = leads[r.From] || leads[r.To]
		}
	}
	return leadsText(leads)
}

// anySystem: any small one, now and then of more states and rules.
func anySystem(r *rand.Rand) pds.System {
	s := sample.Pick(r.Intn).System()
	if r.Intn(3) > 0 {
		return s
	}
	more := sample.Pick(r.Intn).System()
	for _, rule := range more.Rules {
		rule.From, rule.To = rule.From+s.States-1, rule.To+s.States-1
		s.Rules = append(s.Rules, rule)
	}
	s.States += more.States - 1
	s.Labels = max(s.Labels, more.Labels)
	return s
}

// least: what the least run from a to b costs, as a text.
func least(s pds.System, a, b paut.Auto, fromEnd bool) string {
	r, err := run.Between(s, a, b, fromEnd, 0)
	if oops.Is(err, api.ErrNone) {
		return "none"
	}
	return strconv.FormatUint(r.Cost, 10)
}

// same: P29.4, of a system and its levels.
func same(t *testing.T, what string, s pds.System, a, b paut.Auto) {
	t.Helper()
	want := least(s, a, b, true)
	_, whole := reduce.Of(s, a, b, 0)
	for level := range 3 {
		fewer, places := reduce.Of(s, a, b, level)
		for _, fromEnd := range []bool{false, true} {
			check(t, what+": the least at level "+strconv.Itoa(level), least(fewer, a, b, fromEnd), want)
		}
		for _, at := range places {
			check(t, "it was there at the level below", slices.Contains(whole, at), true)
		}
		whole = places
	}
}

// P29.1 to P29.4: of any systems and automata.
func TestAny(t *testing.T) {
	r := rand.New(rand.NewSource(291))
	first, second := 0, 0
	for range 15000 {
		s := anySystem(r)
		a, b := sample.Pick(r.Intn).Auto(s.States), sample.Pick(r.Intn).Auto(s.States)
		what := systemText(s) + " from " + autoText(a) + " to " + autoText(b)
		tops := reduce.Tops(s, a)
		leads := reduce.Leads(s, b)
		check(t, what+": on top", topsText(tops), soughtTops(s, a))
		check(t, what+": what leads", leadsText(leads), soughtLeads(s, b))
		var one, two []int
		for at, rule := range s.Rules {
			if slices.Contains(tops[rule.From], rule.Top) {
				one = append(one, at)
				if leads[rule.To] {
					two = append(two, at)
				}
			}
		}
		check(t, what+": level 1", ofText(t, s, a, b, 1), sample.Numbers(one))
		check(t, what+": level 2", ofText(t, s, a, b, 2), sample.Numbers(two))
		check(t, what+": level 0", len(strings.Fields(ofText(t, s, a, b, 0))), len(s.Rules))
		same(t, what, s, a, b)
		check(t, "what was handed in", systemText(s)+" from "+autoText(a)+" to "+autoText(b), what)
		if len(one) < len(s.Rules) {
			first++
		}
		if len(two) < len(one) {
			second++
		}
	}
	check(t, "some of each: "+strconv.Itoa(first)+", "+strconv.Itoa(second), first > 1000 && second > 1000, true)
}

// P29.1 to P29.3: as many states as there may be, and labels, in a long row.
func TestMany(t *testing.T) {
	states := 1 << 20
	s := system(states, 128)
	for state := range states - 1 {
		s.Rules = append(s.Rules, rule(states-1-state, 127, states-2-state, "127", 1))
	}
	for label := range 128 {
		s.Rules = append(s.Rules, rule(7, 127, 7, "127 "+strconv.Itoa(label), 0))
	}
	s.Rules = append(s.Rules, rule(1, 127, 0, "", 0), rule(0, 126, 0, "", 0))
	a, b := made(states, states+1, "", edge(states-1, 127, states, 0)), made(states, states, "0")
	tops, leads := reduce.Tops(s, a), reduce.Leads(s, b)
	check(t, "on top of the last one", len(tops[0]), 128)
	check(t, "on top of another one", sample.Numbers(tops[1]), "127")
	check(t, "what leads", slices.Contains(leads, false), false)
	for level := range 3 {
		_, places := reduce.Of(s, a, b, level)
		check(t, "rules", len(places), len(s.Rules))
	}
	_, places := reduce.Of(s, a, made(states, states, strconv.Itoa(states-2)), 2)
	check(t, "rules to the second one", sample.Numbers(places), "0")
	_, places = reduce.Of(s, made(states, states+1, "", edge(7, 127, states, 0)), b, 1)
	check(t, "rules from the seventh one", len(places), 7+128+2)
}

// Memory: answers are new each time, and nothing that is handed in is shared.
func TestMemory(t *testing.T) {
	s, a, b := example()
	s.Rules = append(make([]pds.Rule, 0, 20), s.Rules...)
	for i := range s.Rules {
		s.Rules[i].Push = append(make([]int, 0, 9), s.Rules[i].Push...)
	}
	a.Edges = append(make([]paut.Edge, 0, 9), a.Edges...)
	was := systemText(s) + autoText(a) + autoText(b)
	for level := range 3 {
		one, places := reduce.Of(s, a, b, level)
		other, others := reduce.Of(s, a, b, level)
		want := systemText(other) + sample.Numbers(others)
		for i := range one.Rules {
			push := one.Rules[i].Push
			for j := range push[:cap(push)] {
				push[:cap(push)][j] = 7
			}
			one.Rules[i].To = 3
		}
		for i := range places {
			places[i] = 99
		}
		check(t, "two answers", systemText(other)+sample.Numbers(others), want)
		check(t, "what was handed in", systemText(s)+autoText(a)+autoText(b), was)
		check(t, "spare room", s.Rules[:20][19].To == 0 && s.Rules[4].Push[:9][8] == 0 && a.Edges[:9][8] == paut.Edge{}, true)
	}
	tops, leads := reduce.Tops(s, a), reduce.Leads(s, b)
	want := topsText(tops)
	for i := range tops {
		one := tops[i]
		tops[i] = nil
		for j := range one[:cap(one)] {
			one[:cap(one)][j] = 55
		}
	}
	clear(leads)
	check(t, "again", topsText(reduce.Tops(s, a)), want)
	check(t, "again", leadsText(reduce.Leads(s, b)), "0 1 2 3 of 4")
}

// Memory: no two lists of what may be on top share any.
func TestTopsApart(t *testing.T) {
	s, a, _ := example()
	tops := reduce.Tops(s, a)
	for i := range tops {
		was := slices.Clone(tops[i])
		all := tops[i][:cap(tops[i])]
		for j := range all {
			all[j] = 100 + i
		}
		copy(tops[i], was)
	}
	check(t, "on top", topsText(tops), "5, 6, 7, 7")
}

// Of what isn't promised: all ends without a panic.
func TestUnpromised(t *testing.T) {
	s, a, b := example()
	for _, s := range []pds.System{s, system(-1, 1), system(1, 1, rule(0, 0, 7, "3 3 3", 0)), system(4, 2, rule(0, 0, 1, "1", 0))} {
		for _, x := range []paut.Auto{a, b, {}, made(4, 1, "9 3"), made(1, 1, "", edge(-1, -5, 8, 0)), made(4, 5, "4", edge(0, -1, 4, 0)), made(3, 4, "3", edge(0, 0, 3, 0))} {
			for level := range 3 {
				reduce.Of(s, x, b, level)
				reduce.Of(s, a, x, level)
				reduce.Tops(s, x)
				reduce.Leads(s, x)
			}
		}
	}
}
