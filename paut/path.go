package paut

import (
	"slices"

	"fairlead/amount"
	"fairlead/pds"
)

// spot is a state, and on what one goes on from there.
type spot struct{ state, on int }

// spotOf: where an edge begins, and on what it is.
func spotOf(e Edge) spot { return spot{e.From, e.On} }

// stateOf: where an edge begins.
func stateOf(e Edge) int { return e.From }

// placesBy: the places of the edges, rising, by what is told of each, so that
// they needn't be sought among all.
func placesBy[K comparable](edges []Edge, tell func(Edge) K) map[K][]int {
	places := map[K][]int{}
	for at, e := range edges {
		k := tell(e)
		places[k] = append(places[k], at)
	}
	return places
}

// stand is where one stands behind some of a stack, and how one comes there at
// the least cost: by the edge at that place, from the stand at that place among
// those ahead; -1, where there is none.
type stand struct {
	state       int
	cost        uint64
	edge, ahead int
}

// stands are some of unlike states, in an order that hangs on the edges' alone.
type stands struct {
	all []stand
	at  map[int]int // where each state's is
}

// put: one more, or one that costs less than its state's so far.
func (l *stands) put(s stand) {
	at, ok := l.at[s.state]
	switch {
	case !ok:
		l.at[s.state] = len(l.all)
		l.all = append(l.all, s)
	case s.cost < l.all[at].cost:
		l.all[at] = s
	}
}

// walker goes over the edges of an automaton.
type walker struct {
	Auto
	from map[int][]int
	by   map[spot][]int
}

// walk: one who begins.
func walk(a Auto) walker {
	return walker{Auto: a, from: placesBy(a.Edges, stateOf), by: placesBy(a.Edges, spotOf)}
}

// begin: where one may stand with a whole stack, in a state of a system: there,
// or behind an edge on nothing.
func (w walker) begin(state int) stands {
	here := stands{at: map[int]int{}}
	if state < 0 || state >= w.Base {
		return here
	}
	here.put(stand{state: state, edge: -1, ahead: -1})
	for _, at := range w.by[spot{state, Eps}] {
		e := w.Edges[at]
		here.put(stand{state: e.To, cost: amount.Cap(e.Cost), edge: at, ahead: -1})
	}
	return here
}

// onward: where one stands behind one label more.
func (w walker) onward(from stands, label int) stands {
	next := stands{at: map[int]int{}}
	if label == Eps {
		return next // it is no label, whatever is on nothing
	}
	for ahead, s := range from.all {
		for _, at := range w.by[spot{s.state, label}] {
			e := w.Edges[at]
			next.put(stand{state: e.To, cost: amount.Add(s.cost, e.Cost), edge: at, ahead: ahead})
		}
	}
	return next
}

// over: where one stands ahead of each of a configuration's labels, and behind
// the last one.
func (w walker) over(c pds.Config) []stands {
	rows := []stands{w.begin(c.State)}
	for i, label := range c.Stack {
		rows = append(rows, w.onward(rows[i], label))
	}
	return rows
}

// last: the place of the Final one that costs least; -1 where there is none.
func (w walker) last(l stands) int {
	least := -1
	for at, s := range l.all {
		if w.ends(s.state) && (least < 0 || s.cost < l.all[least].cost) {
			least = at
		}
	}
	return least
}

// Least: what a configuration costs.
func (a Auto) Least(c pds.Config) (uint64, bool) {
	w := walk(a)
	rows := w.over(c)
	end := rows[len(rows)-1]
	at := w.last(end)
	if at < 0 {
		return 0, false
	}
	return end.all[at].cost, true
}

// Path: one that costs no more.
func (a Auto) Path(c pds.Config) ([]int, bool) {
	w := walk(a)
	rows := w.over(c)
	at := w.last(rows[len(rows)-1])
	if at < 0 {
		return nil, false
	}
	var path []int
	for _, row := range slices.Backward(rows) {
		s := row.all[at]
		if s.edge >= 0 {
			path = append(path, s.edge)
		}
		at = s.ahead
	}
	slices.Reverse(path)
	return path, true
}
