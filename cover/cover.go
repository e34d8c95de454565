// Package cover tells of which parts some sets are made up, where whatever is kept,
// be it a set or a part, takes room. (Layer 28 goes by it.)
package cover

import "strconv"

// Member is one of a set. Members can be in one part, if they are in the same sets,
// and have one tone in each of these.
type Member struct{ ID, Tone int }

// Parts: of each set nil, where it is kept whole; else its parts, as lists of IDs,
// which have no others in common with other sets. The sets and the parts that are
// kept, each once, are as few together as they can be.
func Parts(sets [][]Member) [][][]int {
	classes, in := classesOf(sets)
	made := make([][]int, len(sets)) // of which classes
	for i, set := range sets {
		seen := map[int]int{}
		for _, m := range set {
			class := in[m.ID]
			if _, ok := seen[class]; !ok {
				seen[class] = 1
				made[i] = append(made[i], class)
			}
		}
	}
	parts := make([][][]int, len(sets))
	for i, apart := range Split(made, len(classes)) {
		if !apart {
			continue
		}
		parts[i] = make([][]int, 0, len(made[i]))
		for _, class := range made[i] {
			parts[i] = append(parts[i], append([]int(nil), classes[class]...))
		}
	}
	return parts
}

// classesOf: the greatest parts that can be, and of each ID its one.
func classesOf(sets [][]Member) ([][]int, map[int]int) {
	marks := map[int][]byte{} // of each ID its sets, and its tones in them
	var ids []int
	for i, set := range sets {
		for _, m := range set {
			mark, ok := marks[m.ID]
			if !ok {
				ids = append(ids, m.ID)
			}
			mark = strconv.AppendInt(mark, int64(i), 10)
			mark = append(mark, ' ')
			mark = strconv.AppendInt(mark, int64(m.Tone), 10)
			marks[m.ID] = append(mark, ',')
		}
	}
	var classes [][]int
	in, of := map[int]int{}, map[string]int{}
	for _, id := range ids {
		class, ok := of[string(marks[id])]
		if !ok {
			class = len(classes)
			of[string(marks[id])] = class
			classes = append(classes, nil)
		}
		in[id] = class
		classes[class] = append(classes[class], id)
	}
	return classes, in
}

// Split: of each set, is it to be taken apart? The sets that aren't, and the members
// of those that are, each once, are as few together as they can be; where there are
// several ways to that, fewer sets are taken apart. (Members are numbers from 0 on,
// below a bound.)
//
// A set, or each of its members: so what is kept covers all pairs of a set and a
// member. As few as can be do so as there are pairs of which no two have a set or a
// member in common: of each of these one side is kept.
func Split(sets [][]int, below int) []bool {
	m := matcher{sets: sets, matched: make([]bool, len(sets)), with: make([]int, below)}
	for member := range m.with {
		m.with[member] = none
	}
	for m.round() {
	}
	split := make([]bool, len(sets))
	for set := range sets {
		split[set] = !m.matched[set]
	}
	for member, set := range m.with {
		if set != none && m.seen[member] {
			split[set] = true
		}
	}
	return split
}

const none = -1

// matcher pairs sets with members, as many as it can.
type matcher struct {
	sets    [][]int
	matched []bool // of each set
	with    []int  // of each member the set with which it is paired
	seen    []bool // of each member: was it looked at in this round?
}

// round: one more look at all sets without a member; are there more pairs now? In
// the last round all is seen to which one comes from a set without a member.
func (m *matcher) round() bool {
	m.seen = make([]bool, len(m.with))
	more := false
	for set := range m.sets {
		if !m.matched[set] && m.match(set) {
			m.matched[set] = true
			more = true
		}
	}
	return more
}

// match: can a set have a member, if others change theirs?
func (m *matcher) match(set int) bool {
	for _, member := range m.sets[set] {
		if m.seen[member] {
			continue
		}
		m.seen[member] = true
		if m.with[member] == none || m.match(m.with[member]) {
			m.with[member] = set
			return true
		}
	}
	return false
}
