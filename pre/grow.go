package pre

import (
	"fairlead/amount"
	"fairlead/edges"
	"fairlead/paut"
	"fairlead/pds"
)

// spot is a state, and a label by which one goes on from there.
type spot struct{ state, on int }

// part is a rule, of whose Push one has gone by some labels, to a state: over
// edges, which came with the rule to that cost, and to so many rules in all.
type part struct {
	rule, state int
	gone        int
	over        [2]int
	cost, steps uint64
}

// saturation is an automaton that grows by a system's rules. Edges are told by
// rising costs, and what comes of one costs no less: so no edge comes at less once
// it was told.
type saturation struct {
	edges.Growing
	rules []pds.Rule
	parts map[spot][]part // by what they need next
	told  map[spot][]int  // the edges that were told, by where they begin
}

// begin: with the edges that are there, and each rule, of which nothing is gone by.
func begin(s pds.System, a paut.Auto) *saturation {
	g := &saturation{
		Growing: edges.Grow(a.Base, a.States, a.Final),
		rules:   s.Rules,
		parts:   map[spot][]part{},
		told:    map[spot][]int{},
	}
	for _, e := range a.Edges {
		g.Put(e, edges.Origin{How: given})
	}
	for i, r := range s.Rules {
		g.stand(part{rule: i, state: r.To, cost: r.Cost, steps: 1})
	}
	return g
}

// onward: what comes of an edge that is told.
func (g *saturation) onward(at int) {
	e := g.Auto.Edges[at]
	here := spot{e.From, e.On}
	g.told[here] = append(g.told[here], at)
	for _, p := range g.parts[here] {
		g.stand(g.over(p, at))
	}
}

// stand: one more part, with what comes of it and the edges told so far. Of one
// that has gone by all there is an edge, which stands for the whole rule.
func (g *saturation) stand(p part) {
	r := g.rules[p.rule]
	if p.gone == len(r.Push) {
		e := paut.Edge{From: r.From, On: r.Top, To: p.state, Cost: p.cost}
		g.Put(e, edges.Origin{How: bare + p.gone, Rule: p.rule, First: p.over[0], Second: p.over[1], Steps: p.steps})
		return
	}
	here := spot{p.state, r.Push[p.gone]}
	g.parts[here] = append(g.parts[here], p)
	for _, at := range g.told[here] {
		g.stand(g.over(p, at))
	}
}

// over: a part that goes on over an edge.
func (g *saturation) over(p part, at int) part {
	e := g.Auto.Edges[at]
	p.over[p.gone] = at
	p.gone++
	p.state = e.To
	p.cost = amount.Add(p.cost, e.Cost)
	p.steps = amount.Add(p.steps, g.Origins[at].Steps)
	return p
}
