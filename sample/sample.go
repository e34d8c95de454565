// Package sample makes systems with a stack, sets of their configurations, networks,
// and questions, out of short texts, and tells them as texts: for the tests of the
// layers about them.
package sample

import (
	"slices"
	"strconv"
	"strings"

	"fairlead/api"
	"fairlead/paut"
	"fairlead/pds"
)

// Numbers: a list's text, with blanks between.
func Numbers(l []int) string {
	var words []string
	for _, i := range l {
		words = append(words, strconv.Itoa(i))
	}
	return strings.Join(words, " ")
}

// list: the numbers of a text.
func list(s string) []int {
	var l []int
	for _, word := range strings.Fields(s) {
		i, err := strconv.Atoi(word)
		if err != nil {
			panic(err) // a test is written wrongly
		}
		l = append(l, i)
	}
	return l
}

// Config: a state, and the stack of a text.
func Config(state int, stack string) pds.Config { return pds.Config{State: state, Stack: list(stack)} }

// ConfigText: all that a configuration is.
func ConfigText(c pds.Config) string { return strconv.Itoa(c.State) + ", " + Numbers(c.Stack) }

// Rule: one whose Push is told by a text.
func Rule(from, top, to int, push string, cost uint64) pds.Rule {
	return pds.Rule{From: from, Top: top, To: to, Push: list(push), Cost: cost}
}

// System: of some rules.
func System(states, labels int, rules ...pds.Rule) pds.System {
	return pds.System{States: states, Labels: labels, Rules: rules}
}

// SystemText: all that a system is.
func SystemText(s pds.System) string {
	words := []string{Numbers([]int{s.States, s.Labels})}
	for _, r := range s.Rules {
		words = append(words, Numbers([]int{r.From, r.Top, r.To})+" ["+Numbers(r.Push)+"] "+strconv.FormatUint(r.Cost, 10))
	}
	return strings.Join(words, "; ")
}

// Edge: one, of a cost.
func Edge(from, on, to int, cost uint64) paut.Edge {
	return paut.Edge{From: from, On: on, To: to, Cost: cost}
}

// Auto: an automaton whose Final are told by a text.
func Auto(base, states int, final string, edges ...paut.Edge) paut.Auto {
	return paut.Auto{Base: base, States: states, Edges: edges, Final: list(final)}
}

// AutoText: all that an automaton is.
func AutoText(a paut.Auto) string {
	words := []string{Numbers([]int{a.Base, a.States})}
	for _, e := range a.Edges {
		words = append(words, Numbers([]int{e.From, e.On, e.To})+" "+strconv.FormatUint(e.Cost, 10))
	}
	return strings.Join(words, "; ") + "; " + Numbers(a.Final)
}

// Least: what a configuration costs, as a text.
func Least(a paut.Auto, c pds.Config) string {
	cost, ok := a.Least(c)
	if !ok {
		return "none"
	}
	return strconv.FormatUint(cost, 10)
}

// Alone: an automaton that has a configuration at no cost, and no other one.
func Alone(base int, c pds.Config) paut.Auto {
	a := paut.Auto{Base: base, States: base}
	from := c.State
	for _, label := range c.Stack {
		a.Edges = append(a.Edges, Edge(from, label, a.States, 0))
		from = a.States
		a.States++
	}
	a.Final = []int{from}
	return a
}

// Halves: a system with one state, where each label but 0, which is taken away at
// 1, is two of the one below it: what is laid there grows as 2 does.
func Halves(labels int) pds.System {
	s := System(1, labels, Rule(0, 0, 0, "", 1))
	for label := 1; label < labels; label++ {
		below := strconv.Itoa(label - 1)
		s.Rules = append(s.Rules, Rule(0, label, 0, below+" "+below, 0))
	}
	return s
}

// Stacks: all over so many labels, up to a height.
func Stacks(labels, height int) [][]int {
	rows := [][]int{nil}
	for i := 0; i < len(rows); i++ {
		for label := range labels {
			if len(rows[i]) < height {
				rows = append(rows, append(slices.Clone(rows[i]), label))
			}
		}
	}
	return rows
}

// Pick tells any number below one.
type Pick func(below int) int

// cost: any; most are low, some end others' sums.
func (p Pick) cost() uint64 {
	if p(30) == 0 {
		return api.MaxCost - uint64(p(4))
	}
	return uint64(p(5))
}

// System: any that may be, of at most three states and three labels.
func (p Pick) System() pds.System {
	s := System(1+p(3), 1+p(3))
	for range p(15) {
		r := Rule(p(s.States), p(s.Labels), p(s.States), "", p.cost())
		for range p(3) {
			r.Push = append(r.Push, p(s.Labels))
		}
		s.Rules = append(s.Rules, r)
	}
	return s
}

// Auto: any that may be, and is plain, of that Base, over at most three labels.
func (p Pick) Auto(base int) paut.Auto {
	a := paut.Auto{Base: base, States: base + p(4)}
	for range p(12) {
		if a.States > base {
			a.Edges = append(a.Edges, Edge(p(a.States), p(3), base+p(a.States-base), p.cost()))
		}
	}
	for state := range a.States {
		if p(2) == 0 {
			a.Final = append(a.Final, state)
		}
	}
	return a
}
