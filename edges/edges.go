// Package edges keeps the edges of an automaton that grows, as it does in the
// layers pre and post: each at the least cost at which it came, with how it came,
// so that a run can be told of it.
package edges

import (
	"iter"
	"slices"

	"fairlead/amount"
	"fairlead/api"
	"fairlead/heap"
	"fairlead/oops"
	"fairlead/paut"
	"fairlead/pds"
)

// mostTold is how many rules a run that is told may have at most, however many
// are asked for: no memory holds more of them.
const mostTold = 1<<31 - 1

// Origin is how an edge came; the kinds of How are those of who puts it.
type Origin struct {
	How           int
	Rule          int    // the one by which it came
	First, Second int    // the places of the edges of which it came
	Steps         uint64 // how many rules it stands for: an amount
}

// Made is an automaton, with how each of its edges came.
type Made struct {
	Auto    paut.Auto
	Origins []Origin
}

// Copy: the automaton, in memory of its own.
func (m Made) Copy() paut.Auto {
	a := m.Auto
	a.Edges, a.Final = slices.Clone(a.Edges), slices.Clone(a.Final)
	return a
}

// Path: the places of a configuration's edges, where they stand for no more than
// so many rules.
func (m Made) Path(c pds.Config, most int) ([]int, error) {
	path, ok := m.Auto.Path(c)
	if !ok {
		return nil, oops.New(api.ErrNone, 0)
	}
	steps := uint64(0)
	for _, at := range path {
		steps = amount.Add(steps, m.Origins[at].Steps)
	}
	most = max(most, 0)
	if steps > uint64(min(most, mostTold)) {
		return nil, oops.New(api.ErrLong, most)
	}
	return path, nil
}

// ends are what an edge has, but for its cost.
type ends struct{ from, on, to int }

// Growing is an automaton to which edges are still put.
type Growing struct {
	Made
	at   map[ends]int // where each edge is
	wait heap.Heap[int]
}

// Grow: one that has states, and no edges yet.
func Grow(base, states int, final []int) Growing {
	a := paut.Auto{Base: base, States: states, Final: slices.Clone(final)}
	return Growing{Made: Made{Auto: a}, at: map[ends]int{}}
}

// Put: an edge, where it isn't there yet, or comes at less.
func (g *Growing) Put(e paut.Edge, o Origin) {
	k := ends{e.From, e.On, e.To}
	at, ok := g.at[k]
	switch {
	case !ok:
		at = len(g.Origins)
		g.at[k] = at
		g.Auto.Edges = append(g.Auto.Edges, e)
		g.Origins = append(g.Origins, o)
	case e.Cost < g.Auto.Edges[at].Cost:
		g.Auto.Edges[at], g.Origins[at] = e, o
	default:
		return
	}
	g.wait.Put(e.Cost, at)
}

// Told: the places of the edges, what costs least first, those too that are put
// meanwhile. One that comes at less once it was told is told again.
func (g *Growing) Told() iter.Seq[int] {
	return func(yield func(int) bool) {
		for {
			at, cost, ok := g.wait.Take()
			if !ok || cost == g.Auto.Edges[at].Cost && !yield(at) {
				return
			}
		}
	}
}

// Fit: may a system and an automaton be, and go together?
func Fit(s pds.System, a paut.Auto) bool {
	return s.Check() == nil && a.Check() == nil && a.Plain() && a.Base == s.States
}
