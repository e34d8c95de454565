package build

import (
	"fairlead/bits"
	"fairlead/cover"
	"fairlead/nfa"
)

// aims are lists of states of the paths to which one may come from another one. To
// which state of a list one goes may be open still on the way to a place, so that all
// from which one comes to the same ones have the way in common; or a list has one
// state alone.
type aims struct {
	paths nfa.NFA
	lists [][]int
	links []bits.Set     // of each list those by which one may come to some of it
	known map[string]int // lists, by their texts
	of    [][]int        // of each state the lists to which one comes from it
	ahead map[toward]int // lists, of what a node leads to of them
}

// toward is a node, on the way to some of a list.
type toward struct{ node, aim int }

// aimsOf: of paths. There are as few lists as can be, of whole ones and of their parts.
func aimsOf(p nfa.NFA) *aims {
	a := &aims{paths: p, known: map[string]int{}, ahead: map[toward]int{}}
	var whole []int
	for _, next := range p.Next {
		whole = append(whole, a.list(next))
	}
	var sets [][]cover.Member
	for _, list := range a.lists {
		var set []cover.Member
		for _, at := range list {
			set = append(set, cover.Member{ID: at})
		}
		sets = append(sets, set)
	}
	parts := cover.Parts(sets)
	for _, aim := range whole {
		of := []int{aim}
		if parts[aim] != nil {
			of = nil
		}
		for _, part := range parts[aim] {
			of = append(of, a.list(part))
		}
		a.of = append(a.of, of)
	}
	return a
}

// by: the states of a list to which one may come by some links.
func (a *aims) by(list []int, links bits.Set) []int {
	var l []int
	for _, at := range list {
		if !a.paths.On[at].And(links).Empty() {
			l = append(l, at)
		}
	}
	return l
}

// list: its number.
func (a *aims) list(l []int) int {
	key := keyOf(l...)
	aim, ok := a.known[key]
	if ok {
		return aim
	}
	aim = len(a.lists)
	a.known[key] = aim
	var links bits.Set
	for _, at := range l {
		links = links.Or(a.paths.On[at])
	}
	a.lists = append(a.lists, l)
	a.links = append(a.links, links)
	return aim
}

// toward: of a list what a node leads to. So ways that differ in nothing that comes
// behind them are the same.
func (a *aims) toward(at int, n node, aim int) int {
	if len(a.lists[aim]) == 1 {
		return aim
	}
	to, ok := a.ahead[toward{at, aim}]
	if !ok {
		var links bits.Set
		for _, w := range n.ways {
			links = links.With(w.out)
		}
		to = a.list(a.by(a.lists[aim], links))
		a.ahead[toward{at, aim}] = to
	}
	return to
}
