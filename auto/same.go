package auto

import (
	"slices"
	"strconv"

	"fairlead/bits"
	"fairlead/nfa"
)

// maxRules is how many rules are kept: with more of them it takes longer to find
// what follows than to look at it.
const maxRules = 4000

// rule: a set of states that has all of one list accepts the same rows, whether
// it has those of the other, too, or not.
type rule struct{ having, also []int }

// Same: do both accept the same rows? The states into which a row leads must
// agree about it in both. There may be as many sets of them as there are sets
// at all: so those are passed over that follow from others, and small ones, from
// which more follow, come first.
func Same(a, b nfa.NFA) bool {
	a, b = Trim(a), Trim(b)
	both := beside(a, b)
	some := unlike(both)
	wait := waiting{seen: map[string]int{}}
	wait.put([]int{0, a.Len()})
	var rules []rule
	for l, ok := wait.take(); ok; l, ok = wait.take() {
		at, _ := slices.BinarySearch(l, a.Len())
		x, y := l[:at], l[at:]
		if follows(both, x, y, rules) {
			continue
		}
		if ends(both, x) != ends(both, y) {
			return false
		}
		if len(rules) < maxRules {
			rules = append(rules, rule{x, y}, rule{y, x})
		}
		for on := range some.And(onward(both, l)).All() {
			wait.put(both.Step(l, on))
		}
	}
	return true
}

// beside: an automaton of the states of both, those of b behind those of a.
func beside(a, b nfa.NFA) nfa.NFA {
	both := nfa.NFA{
		On:    slices.Concat(a.On, b.On),
		Next:  slices.Clone(a.Next),
		Final: slices.Concat(a.Final, b.Final),
	}
	for _, next := range b.Next {
		var moved []int
		for _, s := range next {
			moved = append(moved, a.Len()+s)
		}
		both.Next = append(both.Next, moved)
	}
	return both
}

// unlike: of numbers that no state tells apart the least alone.
func unlike(a nfa.NFA) bits.Set {
	var all bits.Set
	for _, on := range a.On {
		all = all.Or(on)
	}
	parts := []bits.Set{all}
	for _, on := range a.On {
		var finer []bits.Set
		for _, part := range parts {
			finer = append(finer, part.And(on), part.Less(on))
		}
		parts = slices.DeleteFunc(finer, bits.Set.Empty)
	}
	var some bits.Set
	for _, part := range parts {
		some = some.With(part.First())
	}
	return some
}

// ends: is one of some states Final?
func ends(a nfa.NFA, l []int) bool {
	return slices.ContainsFunc(l, func(s int) bool { return a.Final[s] })
}

// follows: do two sets accept the same rows by the rules? They do, where each
// has the other one in what it grows to.
func follows(a nfa.NFA, x, y []int, rules []rule) bool {
	return hasAll(grown(a, x, rules), y) && hasAll(grown(a, y, rules), x)
}

// grown: a set with what it may have, too, by the rules. Each is tried once, in
// their order: trying them again would take longer than what it would spare.
func grown(a nfa.NFA, l []int, rules []rule) []bool {
	in := make([]bool, a.Len())
	for _, s := range l {
		in[s] = true
	}
seek:
	for _, r := range rules {
		for _, s := range r.having {
			if !in[s] {
				continue seek
			}
		}
		for _, s := range r.also {
			in[s] = true
		}
	}
	return in
}

// hasAll: are all of a list in a set?
func hasAll(in []bool, l []int) bool {
	return !slices.ContainsFunc(l, func(s int) bool { return !in[s] })
}

// waiting has lists of states by how many there are in them.
type waiting struct {
	lists [][][]int
	seen  map[string]int
}

// put: one more, if it is a new one.
func (w *waiting) put(l []int) {
	var key []byte
	for _, s := range l {
		key = append(strconv.AppendInt(key, int64(s), 10), ' ')
	}
	if w.seen[string(key)]++; w.seen[string(key)] > 1 {
		return
	}
	for len(w.lists) <= len(l) {
		w.lists = append(w.lists, nil)
	}
	w.lists[len(l)] = append(w.lists[len(l)], l)
}

// take: one of the shortest; false, where none waits.
func (w *waiting) take() ([]int, bool) {
	for n, lists := range w.lists {
		if last := len(lists) - 1; last >= 0 {
			w.lists[n] = lists[:last]
			return lists[last], true
		}
	}
	return nil, false
}
