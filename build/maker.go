package build

import (
	"slices"

	"fairlead/nfa"
	"fairlead/pds"
)

// maker makes a model of a plan: of a place a state, and of a node, for each list
// of states of the paths that may come behind it, and each count of failed links,
// a state, or less than one.
type maker struct {
	plan  *plan
	paths nfa.NFA
	mode  Mode
	aims  *aims
	seats map[left]seat
	free  seat // the next one at which one may lay
	todo  []visit
	model Model
}

// left is what is left on the way to a place, and whereto it leads.
type left struct{ node, aim, fails int }

// seat is where something is left: a state, and, where one only lays, a label on
// top. That one tells what is left, as the state does, so that few states are
// enough for all that may be left.
type seat struct{ state, top int }

// visit is a seat from which rules are to be made.
type visit struct {
	at          seat
	node, fails int
	aims        []int
}

// begin: the places by a link that are starts.
func (m *maker) begin(link int, cost uint64) {
	if m.mode.Kind == Fixed && m.mode.Failed.Has(link) {
		return
	}
	for _, at := range m.paths.Next[0] {
		if m.paths.On[at].Has(link) {
			m.model.starts = append(m.model.starts, m.place(Place{Link: link, At: at}))
			m.model.costs = append(m.model.costs, cost)
		}
	}
}

// goOn: the rules of a seat.
func (m *maker) goOn(v visit) {
	for _, move := range m.plan.nodes[v.node].moves {
		fails, ok := m.mode.counts(v.fails, move.needs)
		if !ok {
			continue
		}
		for _, aim := range v.aims {
			if move.to == none {
				m.arrive(v.at, move, aim, fails)
			} else {
				m.pass(v.at, move, aim, fails)
			}
		}
	}
}

// arrive: the rules of a move to places.
func (m *maker) arrive(from seat, move move, aim, fails int) {
	for _, at := range m.aims.lists[aim] {
		if m.paths.On[at].Has(move.out) {
			m.rules(from, move, m.place(Place{Link: move.out, At: at, Fails: fails}), none)
		}
	}
}

// pass: the rules of a move to a node.
func (m *maker) pass(from seat, move move, aim, fails int) {
	n := m.plan.nodes[move.to]
	aim = m.aims.toward(move.to, n, aim)
	leads := func(w way) bool {
		_, ok := m.mode.counts(fails, w.needs)
		return ok && m.aims.links[aim].Has(w.out)
	}
	if slices.ContainsFunc(n.ways, leads) {
		to := m.seat(left{move.to, aim, fails}, n.lays())
		m.rules(from, move, to.state, to.top)
	}
}

// rules: one of each label that a move may take away, to a state, with a label of
// the state's on top, if it has one.
func (m *maker) rules(from seat, move move, to, top int) {
	tops := move.tops
	if tops == nil {
		tops = []int{from.top}
	}
	for _, label := range tops {
		var push []int
		if top != none {
			push = append(push, top)
		}
		for i := len(move.push) - 1; i >= 0; i-- {
			x := int(move.push[i])
			if x == same {
				x = label
			}
			push = append(push, x)
		}
		rule := pds.Rule{From: from.state, Top: label, To: to, Push: push, Cost: move.cost}
		m.model.system.Rules = append(m.model.system.Rules, rule)
		m.model.needs = append(m.model.needs, move.needs)
	}
}

// place: its state.
func (m *maker) place(p Place) int {
	if s, ok := m.model.states[p]; ok {
		return s
	}
	s := m.state(p)
	m.model.states[p] = s
	if m.paths.Final[p.At] {
		m.model.ends = append(m.model.ends, s)
	}
	m.todo = append(m.todo, visit{seat{s, none}, p.Link, p.Fails, m.aims.of[p.At]})
	return s
}

// seat: of what is left.
func (m *maker) seat(l left, lays bool) seat {
	if at, ok := m.seats[l]; ok {
		return at
	}
	var at seat
	switch {
	case !lays:
		at = seat{m.state(Place{}), none}
	case m.free.top == len(m.plan.kinds):
		m.free = seat{state: m.state(Place{})}
		fallthrough
	default:
		at = m.free
		m.free.top++
	}
	m.seats[l] = at
	m.todo = append(m.todo, visit{at, l.node, l.fails, []int{l.aim}})
	return at
}

// state: a new one, of a place, or, of the zero one, of none.
func (m *maker) state(p Place) int {
	m.model.places = append(m.model.places, p)
	return len(m.model.places) - 1
}
