package post

import (
	"fairlead/amount"
	"fairlead/edges"
	"fairlead/paut"
	"fairlead/pds"
)

// spot is a state, and a label on top of it.
type spot struct{ state, on int }

// saturation is an automaton that grows by a system's rules. Edges are told by
// rising costs, and what comes of one costs no less, but for the edge to a middle,
// which costs nothing. What comes of that one leads to the middle, too, where
// nothing led before, or goes on below the middle, by an edge that costs no less
// than the one that first brought the middle. So no edge comes at less once it was
// told.
type saturation struct {
	edges.Growing
	rules   []pds.Rule
	by      map[spot][]int // the rules that find it
	middles map[spot]int   // the state below it, where it is the first of two labels
	from    map[int][]int  // the edges that were told, from states above Base
	onto    map[int][]int  // and those on nothing, to them
}

// begin: with the edges that are there.
func begin(s pds.System, a paut.Auto) *saturation {
	g := &saturation{
		Growing: edges.Grow(a.Base, a.States, a.Final),
		rules:   s.Rules,
		by:      map[spot][]int{},
		middles: map[spot]int{},
		from:    map[int][]int{},
		onto:    map[int][]int{},
	}
	for i, r := range s.Rules {
		top := spot{r.From, r.Top}
		g.by[top] = append(g.by[top], i)
	}
	for _, e := range a.Edges {
		g.Put(e, edges.Origin{How: given})
	}
	return g
}

// onward: what comes of an edge that is told.
func (g *saturation) onward(at int) {
	e := g.Auto.Edges[at]
	switch {
	case e.On == paut.Eps:
		g.onto[e.To] = append(g.onto[e.To], at)
		for _, behind := range g.from[e.To] {
			g.join(at, behind)
		}
	case e.From >= g.Auto.Base:
		g.from[e.From] = append(g.from[e.From], at)
		for _, ahead := range g.onto[e.From] {
			g.join(ahead, at)
		}
	default:
		for _, i := range g.by[spot{e.From, e.On}] {
			g.do(i, at)
		}
	}
}

// join: the edge that two are, the first one on nothing: it shows what is on top
// there, for rules to find.
func (g *saturation) join(first, second int) {
	a, b := g.Auto.Edges[first], g.Auto.Edges[second]
	e := paut.Edge{From: a.From, On: b.On, To: b.To, Cost: amount.Add(a.Cost, b.Cost)}
	steps := amount.Add(g.Origins[first].Steps, g.Origins[second].Steps)
	g.Put(e, edges.Origin{How: joined, First: first, Second: second, Steps: steps})
}

// do: what a rule leaves of an edge. Of two labels the second one is, to the
// middle, what one alone is to the rule's state.
func (g *saturation) do(i, at int) {
	r, e := g.rules[i], g.Auto.Edges[at]
	e.From, e.On, e.Cost = r.To, paut.Eps, amount.Add(e.Cost, r.Cost)
	switch len(r.Push) {
	case 2:
		e.From = g.middle(r)
		fallthrough
	case 1:
		e.On = r.Push[len(r.Push)-1]
	}
	g.Put(e, edges.Origin{How: ruled, Rule: i, First: at, Steps: amount.Add(g.Origins[at].Steps, 1)})
}

// middle: the state between a rule's two labels; rules that lead to one state,
// with one first label, share it. It costs nothing to come there: the second
// label's edge tells what the rule costs.
func (g *saturation) middle(r pds.Rule) int {
	top := spot{r.To, r.Push[0]}
	state, ok := g.middles[top]
	if !ok {
		state = g.Auto.States
		g.Auto.States++
		g.middles[top] = state
		g.Put(paut.Edge{From: r.To, On: r.Push[0], To: state}, edges.Origin{How: laid})
	}
	return state
}
