package post

import (
	"slices"

	"fairlead/paut"
)

// none is the number of a state of no use.
const none = -1

// trim: an automaton without what no path goes by, its states above Base numbered
// anew, so that there is as much room as may be for others.
func trim(a paut.Auto) paut.Auto {
	number, states := useful(a)
	t := paut.Auto{Base: a.Base, States: states}
	for _, e := range a.Edges {
		e.From, e.To = number[e.From], number[e.To]
		if e.From != none && e.To != none {
			t.Edges = append(t.Edges, e)
		}
	}
	for _, s := range a.Final {
		if number[s] != none {
			t.Final = append(t.Final, number[s])
		}
	}
	return t
}

// useful: the new number of each state, and how many states are left: those below
// Base, and those over which one comes from there to a Final one.
func useful(a paut.Auto) ([]int, int) {
	var first []int
	onward, back := map[int][]int{}, map[int][]int{}
	for _, e := range a.Edges {
		onward[e.From] = append(onward[e.From], e.To)
		back[e.To] = append(back[e.To], e.From)
		if e.From < a.Base {
			first = append(first, e.From)
		}
	}
	reached, ends := spread(a.States, first, onward), spread(a.States, a.Final, back)
	number, states := make([]int, a.States), 0
	for s := range number {
		number[s] = none
		if s < a.Base || reached[s] && ends[s] {
			number[s] = states
			states++
		}
	}
	return number, states
}

// spread: which states there are from some on, again and again.
func spread(states int, from []int, next map[int][]int) []bool {
	there := make([]bool, states)
	wait := slices.Clone(from)
	for len(wait) > 0 {
		s := wait[len(wait)-1]
		wait = wait[:len(wait)-1]
		if !there[s] {
			there[s] = true
			wait = append(wait, next[s]...)
		}
	}
	return there
}
