package paut

import (
	"slices"

	"fairlead/amount"
	"fairlead/heap"
	"fairlead/pds"
)

// pair is of a state of each of two automata.
type pair struct{ a, b int }

// way is how one comes to a pair by one stack, at the least cost so far: on a
// label, from the pair ahead; or, on Eps, from a system's state, which is both
// of the pair ahead.
type way struct {
	cost  uint64
	ahead pair
	on    int
}

// search goes over two automata at once, what costs least first.
type search struct {
	a, b walker
	ways map[pair]way
	wait heap.Heap[pair]
}

// put: a pair, where it isn't there yet, or comes at less.
func (s *search) put(p pair, w way) {
	old, ok := s.ways[p]
	if ok && old.cost <= w.cost {
		return
	}
	s.ways[p] = w
	s.wait.Put(w.cost, p)
}

// isDull: has an automaton no configuration of a state, as far as one edge tells?
func (w walker) isDull(state int) bool { return len(w.from[state]) == 0 && !w.ends(state) }

// begin: with the states of a system, but the dull ones, of which there may be
// very many.
func (s *search) begin() {
	for state := range min(s.a.Base, s.b.Base) {
		if s.a.isDull(state) || s.b.isDull(state) {
			continue
		}
		for _, x := range s.a.begin(state).all {
			for _, y := range s.b.begin(state).all {
				s.put(pair{x.state, y.state}, way{amount.Add(x.cost, y.cost), pair{state, state}, Eps})
			}
		}
	}
}

// onward: to all pairs to which one comes from one by a label.
func (s *search) onward(p pair) {
	cost := s.ways[p].cost
	for _, i := range s.a.from[p.a] {
		x := s.a.Edges[i]
		if x.On == Eps {
			continue
		}
		for _, j := range s.b.by[spot{p.b, x.On}] {
			y := s.b.Edges[j]
			s.put(pair{x.To, y.To}, way{amount.Sum(cost, x.Cost, y.Cost), p, x.On})
		}
	}
}

// config: the one by which one came to a pair.
func (s *search) config(p pair) pds.Config {
	var stack []int
	w := s.ways[p]
	for ; w.on != Eps; w = s.ways[w.ahead] {
		stack = append(stack, w.on)
	}
	slices.Reverse(stack)
	return pds.Config{State: w.ahead.a, Stack: stack}
}

// Best: what both have, at the least cost.
func Best(a, b Auto) (pds.Config, uint64, bool) {
	s := search{a: walk(a), b: walk(b), ways: map[pair]way{}}
	s.begin()
	for {
		p, cost, ok := s.wait.Take()
		switch {
		case !ok:
			return pds.Config{}, 0, false
		case cost > s.ways[p].cost:
			continue // it came at less since
		case a.ends(p.a) && b.ends(p.b):
			return s.config(p), cost, true
		}
		s.onward(p)
	}
}
