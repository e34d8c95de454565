package nfa

import (
	"fairlead/bits"
	"fairlead/class"
	"fairlead/regex"
)

// maker has the states that are made of the Atoms so far.
type maker struct{ a NFA }

// rows tells of the rows of a node: with which states they begin, and end, and
// whether the empty row is one.
type rows struct {
	first, last []int
	empty       bool
}

// rows: those of a node, whose Atoms become states.
func (m *maker) rows(x class.Node) rows {
	switch x.Kind {
	case regex.Atom:
		s := m.state(x.On)
		return rows{first: []int{s}, last: []int{s}}
	case regex.Cat:
		return m.behind(x.Kids)
	}
	r := m.oneOf(x.Kids)
	switch x.Kind {
	case regex.Plus:
		m.lead(r.last, r.first)
	case regex.Star:
		m.lead(r.last, r.first)
		fallthrough
	case regex.Opt:
		r.empty = true
	}
	return r
}

// behind: the rows of nodes one behind the other.
func (m *maker) behind(kids []class.Node) rows {
	all := rows{empty: true}
	for _, kid := range kids {
		r := m.rows(kid)
		m.lead(all.last, r.first)
		if all.empty {
			all.first = append(all.first, r.first...)
		}
		if !r.empty {
			all.last, all.empty = nil, false
		}
		all.last = append(all.last, r.last...)
	}
	return all
}

// oneOf: the rows of either of some nodes.
func (m *maker) oneOf(kids []class.Node) rows {
	var all rows
	for _, kid := range kids {
		r := m.rows(kid)
		all.first = append(all.first, r.first...)
		all.last = append(all.last, r.last...)
		all.empty = all.empty || r.empty
	}
	return all
}

// state: one more.
func (m *maker) state(on bits.Set) int {
	m.a.On = append(m.a.On, on)
	m.a.Next = append(m.a.Next, nil)
	m.a.Final = append(m.a.Final, false)
	return len(m.a.On) - 1
}

// lead: these states may stand right behind those, whether that is known
// already or not.
func (m *maker) lead(from, to []int) {
	for _, s := range from {
		m.a.Next[s] = append(m.a.Next[s], to...)
	}
}
